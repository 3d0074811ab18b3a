package thicket_test

import (
	"math"
	"math/rand"
	"slices"
	"strings"
	"sync"
	"sync/atomic"
	"testing"

	"thicket/api"
	"thicket/thicket"
)

var oddNumbers = []int{math.MinInt, -1 << 32, -7, -1, 0, 1, 2, 5, 6, 7, 50, 51, 500, 501, 1 << 32, math.MaxInt}

// callAll makes every call with these arguments.
func callAll(x *thicket.Cluster, i, j int, text string) {
	x.Do(i, text)
	x.Ask(i, text)
	x.Knows(i)
	x.Send(i, j)
	x.Frame(i)
	x.Deliver(i)
	x.Spoil(i, j)
	x.Waiting(i)
	x.Tick(i)
	x.Crash(i)
	x.Tear(i, j)
	x.Wake(i)
}

func TestP1NothingPanics(t *testing.T) {
	x := cluster(t, 2, 0)
	texts := []string{"", "/", "s", "sx", "sx+a", "ma/mb/mc/", "\x00", "\xff\xfe", "é+é", strings.Repeat("ma/", 1000), strings.Repeat("+", 1000), "cx>" + strings.Repeat("9", 1000)}
	for _, i := range oddNumbers {
		for _, j := range oddNumbers {
			thicket.New(i, j)
			for _, text := range texts {
				callAll(x, i, j, text)
			}
		}
	}
	source := rand.New(rand.NewSource(1))
	for range 20000 {
		text := make([]byte, source.Intn(12))
		for k := range text {
			text[k] = "smfrcxa0/+-^_=>!\xff"[source.Intn(17)]
		}
		callAll(x, source.Intn(3), source.Intn(3), string(text))
	}
}

func TestP1AnErrorChangesNothing(t *testing.T) {
	x := cluster(t, 2, 3)
	do(t, x, 0, "sx+a", "fx^", "rx=1", "cx>2", "mx/sy+b")
	for _, change := range []string{"", "sx", "!", "sx!a", "mx!!", "mx=a", "fx_0", "rx=", "rx=B", "cx>x", "cx>1000000001", "sx-a/", "mx/!", "sx+b ", "sx^", "sx/sy!"} {
		if e := x.Do(0, change); e == api.OK {
			t.Errorf("%q was accepted", change)
		}
		refuses(t, x, 2, change, api.ErrReplica)
		asksInVain(t, x, 0, change+"+", api.ErrPath)
	}
	refuses(t, x, -1, "sx!", api.ErrReplica)
	knows(t, x, 0, 5)
	knows(t, x, 1, 0)
	tells(t, x, 0, "sx", "a", "fx", "1", "rx", "1", "cx", "2", "mx", "sy", "mx/sy", "b")
	tells(t, x, 1, "sx", "", "fx", "0", "rx", "", "cx", "0", "mx", "", "mx/sy", "")
}

func TestP2ClustersAreApart(t *testing.T) {
	x, y := cluster(t, 2, 10), cluster(t, 2, 10)
	do(t, x, 0, "sx+a", "cx>1")
	do(t, y, 0, "sx+b")
	tells(t, x, 0, "sx", "a", "cx", "1")
	tells(t, y, 0, "sx", "b", "cx", "0")
	for range api.MaxEvents - 2 {
		do(t, x, 1, "fx_")
	}
	refuses(t, x, 0, "fx_", api.ErrFull)
	do(t, y, 0, "fx_")
}

func TestP2SameCallsSameAnswers(t *testing.T) {
	answers := func() []string {
		x := cluster(t, 3, 10)
		var told []string
		for _, c := range randomChanges(rand.New(rand.NewSource(3)), 300) {
			do(t, x, c.who, c.text)
			s, _ := x.Ask(c.who, "ma")
			told = append(told, s)
		}
		for i := range 3 {
			for _, p := range modelPaths {
				s, _ := x.Ask(i, p)
				told = append(told, s)
			}
		}
		return told
	}
	sameEachTime(t, answers)
}

func sameEachTime(t *testing.T, answers func() []string) {
	t.Helper()
	first := answers()
	for range 5 {
		if !slices.Equal(answers(), first) {
			t.Fatal("the same calls answered another thing")
		}
	}
}

// A Do that is not whole would lose an event, or let one too many in; an Ask
// that came into the midst of one would see no value, or two.
func TestP2ManyGoroutines(t *testing.T) {
	x := cluster(t, 3, 10)
	do(t, x, 0, "rx=0")
	var accepted, full atomic.Int64
	var all sync.WaitGroup
	for g := range 12 {
		all.Go(func() {
			for k := range 60 {
				change := []string{"cx>1", "rx=a", "rx=b"}[k%3]
				switch e := x.Do(g%3, change); e {
				case api.OK:
					accepted.Add(1)
				case api.ErrFull:
					full.Add(1)
				default:
					t.Errorf("Do: %d", e)
				}
				if s, e := x.Ask(0, "rx"); len(s) != 1 || e != api.OK {
					t.Errorf("Ask: %q, %d", s, e)
				}
			}
		})
	}
	all.Wait()
	if accepted.Load() != api.MaxEvents-1 || full.Load() != 12*60-(api.MaxEvents-1) {
		t.Errorf("%d accepted, %d refused", accepted.Load(), full.Load())
	}
	known := 0
	for i := range 3 {
		n, _ := x.Knows(i)
		known += n
	}
	if known != api.MaxEvents {
		t.Errorf("%d known", known)
	}
}

func TestP2NoCountIsLost(t *testing.T) {
	x := cluster(t, 1, 0)
	var all sync.WaitGroup
	for range 10 {
		all.Go(func() {
			for range 50 {
				x.Do(0, "cx>2")
			}
		})
	}
	all.Wait()
	knows(t, x, 0, 500)
	tells(t, x, 0, "cx", "1000")
}

func TestP3New(t *testing.T) {
	for _, n := range oddNumbers {
		for _, room := range oddNumbers {
			x, e := thicket.New(n, room)
			want := api.ErrArg
			if 1 <= n && n <= 6 && 0 <= room && room <= 50 {
				want = api.OK
			}
			if e != want || (x != nil) != (want == api.OK) {
				t.Errorf("New(%d, %d): %v, %d", n, room, x != nil, e)
			}
		}
	}
	for n := 1; n <= api.MaxReplicas; n++ {
		x := cluster(t, n, api.MaxCap)
		for i := range n {
			knows(t, x, i, 0)
			tells(t, x, i, "sx", "", "fx", "0", "rx", "", "cx", "0", "mx", "")
		}
		asksInVain(t, x, n, "sx", api.ErrReplica)
	}
}

func TestP3NoSuchReplica(t *testing.T) {
	x := cluster(t, 3, 10)
	do(t, x, 2, "fx^")
	for _, i := range []int{math.MinInt, -1, 3, 6, 1 << 32, math.MaxInt} {
		for _, text := range []string{"", "sx", "sx+a", "sx=", "cx>x"} {
			refuses(t, x, i, text, api.ErrReplica)
			asksInVain(t, x, i, text, api.ErrReplica)
		}
		if n, e := x.Knows(i); n != 0 || e != api.ErrReplica {
			t.Errorf("Knows(%d): %d, %d", i, n, e)
		}
		for _, pair := range [][2]int{{i, 0}, {0, i}, {i, i}} {
			if f, e := x.Send(pair[0], pair[1]); f != 0 || e != api.ErrReplica {
				t.Errorf("Send(%d, %d): %d, %d", pair[0], pair[1], f, e)
			}
		}
		if n, e := x.Waiting(i); n != 0 || e != api.ErrReplica {
			t.Errorf("Waiting(%d): %d, %d", i, n, e)
		}
		for k, e := range []api.Errno{x.Tick(i), x.Crash(i), x.Tear(i, -1), x.Wake(i)} {
			if e != api.ErrReplica {
				t.Errorf("call %d of replica %d: %d", k, i, e)
			}
		}
	}
	for range api.MaxEvents {
		x.Do(0, "fx^")
	}
	refuses(t, x, 3, "fx^", api.ErrReplica)
}
