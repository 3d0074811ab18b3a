// Package replica: one replica, and the events that it knows.
package replica

import (
	"iter"

	"thicket/changes"
	"thicket/disk"
	"thicket/dots"
	"thicket/frames"
	"thicket/pieces"
	"thicket/values"
	"thicket/wire"
)

// Replica has a dot for each event that it knows, and at the dot the effect, as
// long as it is alive. It keeps pieces of that for its neighbours. What it knows is
// on its disk; all else is lost when it crashes.
type Replica struct {
	who   int
	known dots.Store[changes.Change]
	kept  *pieces.Kept[changes.Change]
	disk  *disk.Disk
	down  bool
}

// New makes a replica of a number, that knows nothing, with room for so many
// pieces.
func New(who, room int, neighbours ...int) *Replica {
	r := &Replica{who: who, kept: pieces.New[changes.Change](room, neighbours...)}
	r.disk = disk.New(written(r.known))
	return r
}

// written is what is known, as it is written to the disk.
func written(known dots.Store[changes.Change]) string { return string(wire.Store(nil, known)) }

// Accept takes a change as one more event of this replica's. It saw all that is
// known here: so what it covers of the effects alive is gone. Not ok, if the
// replica crashed meanwhile.
func (r *Replica) Accept(c changes.Change) (ok bool) {
	event := r.known.Next(r.who)
	gone := dots.Gone[changes.Change](r.covered(c)...)
	made := dots.Gone[changes.Change](event)
	if c.IsEffect() {
		made = dots.One(event, c)
	}
	return r.learn(r.who, gone, made)
}

// learn joins stores to what is known, and keeps what was new of them as a piece.
// It is on the disk ahead of that; if the write is cut off, the replica goes down,
// and what it knows is settled once it wakes.
func (r *Replica) learn(from int, stores ...dots.Store[changes.Change]) (ok bool) {
	now := dots.Join(append(stores, r.known)...)
	news := now.Since(r.known)
	if news.Known() == 0 {
		return true
	}
	if !r.disk.Write(written(now)) {
		r.down = true
		return false
	}
	r.known = now
	r.kept.Add(news, from, r.Knows())
	return true
}

func (r *Replica) covered(c changes.Change) []dots.Dot {
	var found []dots.Dot
	for d, effect := range r.known.All() {
		if c.Covers(effect) {
			found = append(found, d)
		}
	}
	return found
}

// Send is a frame that brings a neighbour what it may not have, or all that is
// known here, if that is shorter: of many effects that have gone nothing is left
// there but that they are known.
func (r *Replica) Send(to int) frames.Frame {
	whole := r.bringing(r.known)
	news, ok := r.kept.News(to)
	if !ok {
		return whole
	}
	slim := r.bringing(news)
	if len(slim.Bytes()) > len(whole.Bytes()) {
		return whole
	}
	return slim
}

func (r *Replica) bringing(what dots.Store[changes.Change]) frames.Frame {
	return frames.Frame{From: r.who, Mark: r.Knows(), Brings: what}
}

// Receive takes what a frame brings, and answers the acknowledgement: not ok, if
// the replica crashed meanwhile.
func (r *Replica) Receive(f frames.Frame) (acknowledgement frames.Frame, ok bool) {
	if !r.learn(f.From, f.Brings) {
		return frames.Frame{}, false
	}
	return frames.Frame{From: r.who, Mark: f.Mark, Acknowledges: true}, true
}

// Acknowledged takes an acknowledgement.
func (r *Replica) Acknowledged(f frames.Frame) { r.kept.Acknowledge(f.From, f.Mark) }

// Waiting is how many pieces the replica keeps.
func (r *Replica) Waiting() int { return r.kept.Waiting() }

// Tick drops the pieces that all neighbours have acknowledged.
func (r *Replica) Tick() { r.kept.Tick() }

// Crash loses all but what is on the disk, and goes on from there.
func (r *Replica) Crash() {
	r.known = wire.NewReader(r.disk.Read()).Store()
	r.kept.Lose(r.Knows())
}

// Tear lets the next write be cut off after so many bytes.
func (r *Replica) Tear(bytes int) { r.disk.CutOff(bytes) }

// IsDown: a write was cut off, and the replica has not woken since.
func (r *Replica) IsDown() bool { return r.down }

// Wake lets a replica that is down go on, from what is on its disk.
func (r *Replica) Wake() {
	r.down = false
	r.Crash()
}

// Tell is what the effects alive here make of a path.
func (r *Replica) Tell(path changes.Path) string { return values.At(path, r.alive()) }

func (r *Replica) alive() iter.Seq[changes.Change] {
	return func(yield func(changes.Change) bool) {
		for _, effect := range r.known.All() {
			if !yield(effect) {
				return
			}
		}
	}
}

// Knows is how many events the replica knows.
func (r *Replica) Knows() int { return r.known.Known() }

// Made is how many events the replica has accepted itself: it knows all of these.
func (r *Replica) Made() int { return r.known.Next(r.who).Nth - 1 }
