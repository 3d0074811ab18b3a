package thicket_test

import (
	"testing"

	"thicket/api"
	"thicket/thicket"
)

func cluster(t *testing.T, replicas, room int) *thicket.Cluster {
	t.Helper()
	x, e := thicket.New(replicas, room)
	if x == nil || e != api.OK {
		t.Fatalf("New(%d, %d): %d", replicas, room, e)
	}
	return x
}

// do: changes at a replica, all of which are accepted.
func do(t *testing.T, x *thicket.Cluster, i int, changes ...string) {
	t.Helper()
	for _, c := range changes {
		refuses(t, x, i, c, api.OK)
	}
}

// refuses: what a change answers.
func refuses(t *testing.T, x *thicket.Cluster, i int, change string, want api.Errno) {
	t.Helper()
	if e := x.Do(i, change); e != want {
		t.Errorf("Do(%d, %.40q): %d, want %d", i, change, e, want)
	}
}

// tells: paths, and behind each what a replica tells of it.
func tells(t *testing.T, x *thicket.Cluster, i int, pairs ...string) {
	t.Helper()
	for k := 0; k < len(pairs); k += 2 {
		if s, e := x.Ask(i, pairs[k]); s != pairs[k+1] || e != api.OK {
			t.Errorf("Ask(%d, %q): %q, %d, want %q", i, pairs[k], s, e, pairs[k+1])
		}
	}
}

// asksInVain: what asking for a text answers that is refused.
func asksInVain(t *testing.T, x *thicket.Cluster, i int, path string, want api.Errno) {
	t.Helper()
	if s, e := x.Ask(i, path); s != "" || e != want {
		t.Errorf("Ask(%d, %.40q): %.40q, %d, want %d", i, path, s, e, want)
	}
}

func knows(t *testing.T, x *thicket.Cluster, i, want int) {
	t.Helper()
	if n, e := x.Knows(i); n != want || e != api.OK {
		t.Errorf("Knows(%d): %d, %d, want %d", i, n, e, want)
	}
}
