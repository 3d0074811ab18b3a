// Package thicket: values that many can change at once, and that come together again: see DOC.md.
package thicket

import (
	"strings"
	"sync"

	"thicket/api"
	"thicket/changes"
	"thicket/frames"
	"thicket/replica"
)

// Cluster is some replicas and the frames between them.
type Cluster struct {
	mu       sync.Mutex // held by each call as a whole
	replicas []*replica.Replica
	sent     []sentFrame // the frame of number f at f-1
}

// sentFrame is on its way: all that is known of it but where it goes to is told
// by its bytes.
type sentFrame struct {
	to    int
	bytes string
}

// New makes a cluster (P3).
func New(replicas int, room int) (*Cluster, api.Errno) {
	if replicas < 1 || replicas > api.MaxReplicas || room < 0 || room > api.MaxCap {
		return nil, api.ErrArg
	}
	x := &Cluster{}
	for i := range replicas {
		x.replicas = append(x.replicas, replica.New(i, room, othersThan(i, replicas)...))
	}
	return x, api.OK
}

func othersThan(i, replicas int) []int {
	var others []int
	for j := range replicas {
		if j != i {
			others = append(others, j)
		}
	}
	return others
}

func (x *Cluster) isReplica(i int) bool { return 0 <= i && i < len(x.replicas) }

// up: whether numbers are those of replicas that are up, the first one ahead of
// the second one (P3).
func (x *Cluster) up(numbers ...int) api.Errno {
	for _, i := range numbers {
		if !x.isReplica(i) {
			return api.ErrReplica
		}
		if x.replicas[i].IsDown() {
			return api.ErrDown
		}
	}
	return api.OK
}

// events is how many events the cluster has had: each replica knows its own. One
// that was torn is not among them until its replica wakes and finds it there (P4).
func (x *Cluster) events() int {
	n := 0
	for _, r := range x.replicas {
		n += r.Made()
	}
	return n
}

// Do changes something at a replica (P4).
func (x *Cluster) Do(i int, change string) api.Errno {
	x.mu.Lock()
	defer x.mu.Unlock()
	if e := x.up(i); e != api.OK {
		return e
	}
	c, e := changes.Read(change)
	if e != api.OK {
		return e
	}
	if x.events() >= api.MaxEvents {
		return api.ErrFull
	}
	if !x.replicas[i].Accept(c) {
		return api.ErrCrashed
	}
	return api.OK
}

// Ask tells what is at a path (P5).
func (x *Cluster) Ask(i int, path string) (string, api.Errno) {
	x.mu.Lock()
	defer x.mu.Unlock()
	if e := x.up(i); e != api.OK {
		return "", e
	}
	p, ok := changes.ReadPath(path)
	if !ok {
		return "", api.ErrPath
	}
	return x.replicas[i].Tell(p), api.OK
}

// Knows tells how many events a replica knows (P5).
func (x *Cluster) Knows(i int) (int, api.Errno) {
	x.mu.Lock()
	defer x.mu.Unlock()
	if e := x.up(i); e != api.OK {
		return 0, e
	}
	return x.replicas[i].Knows(), api.OK
}

// Send makes a frame (P6).
func (x *Cluster) Send(i int, j int) (int, api.Errno) {
	x.mu.Lock()
	defer x.mu.Unlock()
	if e := x.up(i, j); e != api.OK {
		return 0, e
	}
	if i == j {
		return 0, api.ErrArg
	}
	if x.allSent() {
		return 0, api.ErrFull
	}
	return x.send(j, x.replicas[i].Send(j)), api.OK
}

func (x *Cluster) allSent() bool { return len(x.sent) >= api.MaxFrames }

// send puts a frame on its way, and answers its number.
func (x *Cluster) send(to int, f frames.Frame) int {
	x.sent = append(x.sent, sentFrame{to: to, bytes: f.Bytes()})
	return len(x.sent)
}

func (x *Cluster) isSent(f int) bool { return 1 <= f && f <= len(x.sent) }

// Frame tells a frame's bytes (P6).
func (x *Cluster) Frame(f int) (string, api.Errno) {
	x.mu.Lock()
	defer x.mu.Unlock()
	if !x.isSent(f) {
		return "", api.ErrFrame
	}
	return strings.Clone(x.sent[f-1].bytes), api.OK
}

// Deliver lets a frame come to its replica (P6).
func (x *Cluster) Deliver(f int) (int, api.Errno) {
	x.mu.Lock()
	defer x.mu.Unlock()
	if !x.isSent(f) {
		return 0, api.ErrFrame
	}
	return x.come(x.sent[f-1].to, x.sent[f-1].bytes)
}

// come: bytes come to a replica. It answers the number of the acknowledgement
// that is sent back.
func (x *Cluster) come(to int, bytes string) (int, api.Errno) {
	if e := x.up(to); e != api.OK {
		return 0, e
	}
	f, ok := frames.Read(bytes)
	if !ok {
		return 0, api.ErrFrame
	}
	if f.Acknowledges {
		x.replicas[to].Acknowledged(f)
		return 0, api.OK
	}
	if x.allSent() {
		return 0, api.ErrFull
	}
	acknowledgement, ok := x.replicas[to].Receive(f)
	if !ok {
		return 0, api.ErrCrashed
	}
	return x.send(f.From, acknowledgement), api.OK
}

// Spoil lets a frame come with a bit turned (P7).
func (x *Cluster) Spoil(f int, bit int) api.Errno {
	x.mu.Lock()
	defer x.mu.Unlock()
	if !x.isSent(f) {
		return api.ErrFrame
	}
	frame := x.sent[f-1]
	if bit < 0 || bit >= 8*len(frame.bytes) {
		return api.ErrArg
	}
	_, e := x.come(frame.to, turned(frame.bytes, bit))
	return e
}

func turned(bytes string, bit int) string {
	spoilt := []byte(bytes)
	spoilt[bit/8] ^= 1 << (bit % 8)
	return string(spoilt)
}

// Waiting tells how many pieces a replica keeps (P8).
func (x *Cluster) Waiting(i int) (int, api.Errno) {
	x.mu.Lock()
	defer x.mu.Unlock()
	if e := x.up(i); e != api.OK {
		return 0, e
	}
	return x.replicas[i].Waiting(), api.OK
}

// Tick drops pieces that all others have acknowledged (P8).
func (x *Cluster) Tick(i int) api.Errno { return x.let(i, (*replica.Replica).Tick) }

// let: something that has no other error happens to a replica.
func (x *Cluster) let(i int, happen func(*replica.Replica)) api.Errno {
	x.mu.Lock()
	defer x.mu.Unlock()
	if e := x.up(i); e != api.OK {
		return e
	}
	happen(x.replicas[i])
	return api.OK
}

// Crash lets a replica crash and come up again (P9).
func (x *Cluster) Crash(i int) api.Errno { return x.let(i, (*replica.Replica).Crash) }

// Tear lets a replica's next write be cut off (P9).
func (x *Cluster) Tear(i int, bytes int) api.Errno {
	x.mu.Lock()
	defer x.mu.Unlock()
	if e := x.up(i); e != api.OK {
		return e
	}
	if bytes < 0 {
		return api.ErrArg
	}
	x.replicas[i].Tear(bytes)
	return api.OK
}

// Wake lets a replica that is down come up again (P9).
func (x *Cluster) Wake(i int) api.Errno {
	x.mu.Lock()
	defer x.mu.Unlock()
	if !x.isReplica(i) {
		return api.ErrReplica
	}
	if !x.replicas[i].IsDown() {
		return api.ErrUp
	}
	x.replicas[i].Wake()
	return api.OK
}
