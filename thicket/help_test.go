package thicket_test

import (
	"testing"

	"thicket/api"
	"thicket/thicket"
)

func cluster(t *testing.T, replicas, room int) *thicket.Cluster {
	t.Helper()
	x, e := thicket.New(replicas, room)
	if x == nil || e != api.OK {
		t.Fatalf("New(%d, %d): %d", replicas, room, e)
	}
	return x
}

// do: changes at a replica, all of which are accepted.
func do(t *testing.T, x *thicket.Cluster, i int, changes ...string) {
	t.Helper()
	for _, c := range changes {
		refuses(t, x, i, c, api.OK)
	}
}

// refuses: what a change answers.
func refuses(t *testing.T, x *thicket.Cluster, i int, change string, want api.Errno) {
	t.Helper()
	if e := x.Do(i, change); e != want {
		t.Errorf("Do(%d, %.40q): %d, want %d", i, change, e, want)
	}
}

// tells: paths, and behind each what a replica tells of it.
func tells(t *testing.T, x *thicket.Cluster, i int, pairs ...string) {
	t.Helper()
	for k := 0; k < len(pairs); k += 2 {
		if s, e := x.Ask(i, pairs[k]); s != pairs[k+1] || e != api.OK {
			t.Errorf("Ask(%d, %q): %q, %d, want %q", i, pairs[k], s, e, pairs[k+1])
		}
	}
}

// asksInVain: what asking for a text answers that is refused.
func asksInVain(t *testing.T, x *thicket.Cluster, i int, path string, want api.Errno) {
	t.Helper()
	if s, e := x.Ask(i, path); s != "" || e != want {
		t.Errorf("Ask(%d, %.40q): %.40q, %d, want %d", i, path, s, e, want)
	}
}

func knows(t *testing.T, x *thicket.Cluster, i, want int) {
	t.Helper()
	if n, e := x.Knows(i); n != want || e != api.OK {
		t.Errorf("Knows(%d): %d, %d, want %d", i, n, e, want)
	}
}

// send: a frame's number.
func send(t *testing.T, x *thicket.Cluster, i, j int) int {
	t.Helper()
	f, e := x.Send(i, j)
	if f < 1 || e != api.OK {
		t.Errorf("Send(%d, %d): %d, %d", i, j, f, e)
	}
	return f
}

// deliver: the number of the acknowledgement.
func deliver(t *testing.T, x *thicket.Cluster, f int) int {
	t.Helper()
	a, e := x.Deliver(f)
	if e != api.OK {
		t.Errorf("Deliver(%d): %d, %d", f, a, e)
	}
	return a
}

// sendsInVain: what sending answers that is refused.
func sendsInVain(t *testing.T, x *thicket.Cluster, i, j int, want api.Errno) {
	t.Helper()
	if f, e := x.Send(i, j); f != 0 || e != want {
		t.Errorf("Send(%d, %d): %d, %d, want %d", i, j, f, e, want)
	}
}

// deliversInVain: what delivering answers that is refused.
func deliversInVain(t *testing.T, x *thicket.Cluster, f int, want api.Errno) {
	t.Helper()
	if a, e := x.Deliver(f); a != 0 || e != want {
		t.Errorf("Deliver(%d): %d, %d, want %d", f, a, e, want)
	}
}

func bytesOf(t *testing.T, x *thicket.Cluster, f int) string {
	t.Helper()
	s, e := x.Frame(f)
	if s == "" || e != api.OK {
		t.Errorf("Frame(%d): %q, %d", f, s, e)
	}
	return s
}

func spoils(t *testing.T, x *thicket.Cluster, f, bit int, want api.Errno) {
	t.Helper()
	if e := x.Spoil(f, bit); e != want {
		t.Errorf("Spoil(%d, %d): %d, want %d", f, bit, e, want)
	}
}

// waits: how many pieces a replica keeps.
func waits(t *testing.T, x *thicket.Cluster, i, want int) {
	t.Helper()
	if n, e := x.Waiting(i); n != want || e != api.OK {
		t.Errorf("Waiting(%d): %d, %d, want %d", i, n, e, want)
	}
}

func tick(t *testing.T, x *thicket.Cluster, i int) {
	t.Helper()
	if e := x.Tick(i); e != api.OK {
		t.Errorf("Tick(%d): %d", i, e)
	}
}

// isShort: how many bytes a frame has at most.
func isShort(t *testing.T, x *thicket.Cluster, f, most int) {
	t.Helper()
	if n := len(bytesOf(t, x, f)); n > most {
		t.Errorf("frame %d has %d bytes, at most %d", f, n, most)
	}
}

// exchange: frames to and fro, and their acknowledgements.
func exchange(t *testing.T, x *thicket.Cluster, i, j int) {
	t.Helper()
	deliver(t, x, deliver(t, x, send(t, x, i, j)))
	deliver(t, x, deliver(t, x, send(t, x, j, i)))
}

// everyToEvery: all send, and then all of it is delivered.
func everyToEvery(t *testing.T, x *thicket.Cluster, replicas int) {
	t.Helper()
	var sent []int
	for i := range replicas {
		for j := range replicas {
			if i != j {
				sent = append(sent, send(t, x, i, j))
			}
		}
	}
	for _, f := range sent {
		deliver(t, x, f)
	}
}

func crash(t *testing.T, x *thicket.Cluster, i int) {
	t.Helper()
	if e := x.Crash(i); e != api.OK {
		t.Errorf("Crash(%d): %d", i, e)
	}
}

func tear(t *testing.T, x *thicket.Cluster, i, bytes int) {
	t.Helper()
	if e := x.Tear(i, bytes); e != api.OK {
		t.Errorf("Tear(%d, %d): %d", i, bytes, e)
	}
}

func wake(t *testing.T, x *thicket.Cluster, i int) {
	t.Helper()
	if e := x.Wake(i); e != api.OK {
		t.Errorf("Wake(%d): %d", i, e)
	}
}

// torn: a change that is torn after so many bytes; the replica is down.
func torn(t *testing.T, x *thicket.Cluster, i, bytes int, change string) {
	t.Helper()
	tear(t, x, i, bytes)
	refuses(t, x, i, change, api.ErrCrashed)
}

// isDown: every call that names the replica answers so, whatever else is wrong.
func isDown(t *testing.T, x *thicket.Cluster, i int) {
	t.Helper()
	for _, text := range []string{"sx", "sx+a", "", "mx", "fx+", "cx>x"} {
		refuses(t, x, i, text, api.ErrDown)
		asksInVain(t, x, i, text, api.ErrDown)
	}
	if n, e := x.Knows(i); n != 0 || e != api.ErrDown {
		t.Errorf("Knows(%d): %d, %d", i, n, e)
	}
	if n, e := x.Waiting(i); n != 0 || e != api.ErrDown {
		t.Errorf("Waiting(%d): %d, %d", i, n, e)
	}
	for _, j := range []int{-1, i, 6} {
		sendsInVain(t, x, i, j, api.ErrDown)
	}
	sendsInVain(t, x, -1, i, api.ErrReplica)
	for k, e := range []api.Errno{x.Tick(i), x.Crash(i), x.Tear(i, 0), x.Tear(i, -1)} {
		if e != api.ErrDown {
			t.Errorf("call %d of replica %d: %d", k, i, e)
		}
	}
}
