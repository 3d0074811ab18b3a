package thicket_test

import (
	"math"
	"strconv"
	"testing"

	"thicket/api"
)

func TestP8Waiting(t *testing.T) {
	x := cluster(t, 3, 4)
	waits(t, x, 0, 0)
	do(t, x, 0, "sx+a")
	waits(t, x, 0, 1)
	do(t, x, 0, "sx-q", "mx!", "fx_")
	waits(t, x, 0, 4)
	refuses(t, x, 0, "sx+", api.ErrOp)
	f := send(t, x, 0, 1)
	waits(t, x, 0, 4)
	a := deliver(t, x, f)
	waits(t, x, 1, 1)
	waits(t, x, 2, 0)
	deliver(t, x, f)
	waits(t, x, 1, 1)
	deliver(t, x, a)
	waits(t, x, 0, 4)
	waits(t, x, 1, 1)
	deliver(t, x, send(t, x, 2, 1))
	waits(t, x, 1, 1)
	do(t, x, 1, "cx>1")
	waits(t, x, 1, 2)
	deliver(t, x, send(t, x, 1, 0))
	waits(t, x, 0, 4)
}

func TestP8Room(t *testing.T) {
	for _, room := range []int{0, 1, 2, 49, api.MaxCap} {
		x := cluster(t, 2, room)
		for k := range 60 {
			do(t, x, 0, "cx>1")
			waits(t, x, 0, min(k+1, room))
			deliver(t, x, send(t, x, 0, 1))
			waits(t, x, 1, min(k+1, room))
			knows(t, x, 1, k+1)
		}
		tells(t, x, 1, "cx", "60")
	}
}

func TestP8Tick(t *testing.T) {
	x := cluster(t, 3, 10)
	tick(t, x, 0)
	do(t, x, 0, "sx+a", "sx+b")
	toOne := deliver(t, x, send(t, x, 0, 1))
	do(t, x, 0, "sx+c")
	toTwo := deliver(t, x, send(t, x, 0, 2))
	tick(t, x, 0)
	waits(t, x, 0, 3)
	deliver(t, x, toTwo)
	tick(t, x, 0)
	waits(t, x, 0, 3)
	deliver(t, x, toOne)
	waits(t, x, 0, 3)
	tick(t, x, 0)
	waits(t, x, 0, 1)
	tick(t, x, 1)
	tick(t, x, 2)
	waits(t, x, 1, 1)
	waits(t, x, 2, 1)
	deliver(t, x, deliver(t, x, send(t, x, 0, 1)))
	tick(t, x, 0)
	waits(t, x, 0, 0)
	tick(t, x, 0)
	waits(t, x, 0, 0)
	do(t, x, 0, "sx+d")
	tick(t, x, 0)
	waits(t, x, 0, 1)
}

// Who has sent a piece has not acknowledged it by that.
func TestP8AFrameIsNoAcknowledgement(t *testing.T) {
	x := cluster(t, 2, 10)
	do(t, x, 0, "sx+a", "sx+b")
	deliver(t, x, send(t, x, 0, 1))
	tick(t, x, 1)
	waits(t, x, 1, 1)
	deliver(t, x, send(t, x, 1, 0))
	tick(t, x, 0)
	waits(t, x, 0, 2)
}

// Acknowledgements are of what was made when the frame was sent, whenever they
// come, and however many times.
func TestP8LateAcknowledgements(t *testing.T) {
	x := cluster(t, 2, 10)
	do(t, x, 0, "sx+a")
	first := deliver(t, x, send(t, x, 0, 1))
	do(t, x, 0, "sx+b", "sx+c")
	second := deliver(t, x, send(t, x, 0, 1))
	do(t, x, 0, "sx+d")
	deliver(t, x, second)
	deliver(t, x, first)
	tick(t, x, 0)
	waits(t, x, 0, 1)
	deliver(t, x, first)
	deliver(t, x, second)
	tick(t, x, 0)
	waits(t, x, 0, 1)
	isShort(t, x, send(t, x, 0, 1), 160)
}

// A frame acknowledges nothing of its sender's that was made later, even if the
// other one has heard of it by another way.
func TestP8AcknowledgedByAnotherWay(t *testing.T) {
	x := cluster(t, 3, 10)
	do(t, x, 0, "sx+a")
	early := send(t, x, 0, 1)
	do(t, x, 0, "sx+b")
	deliver(t, x, deliver(t, x, send(t, x, 0, 2)))
	deliver(t, x, send(t, x, 2, 1))
	deliver(t, x, deliver(t, x, early))
	knows(t, x, 1, 2)
	tick(t, x, 0)
	waits(t, x, 0, 1)
}

func TestP8OneAlone(t *testing.T) {
	x := cluster(t, 1, 3)
	do(t, x, 0, "sx+a", "sx+b")
	waits(t, x, 0, 2)
	tick(t, x, 0)
	waits(t, x, 0, 0)
	do(t, x, 0, "sx+c", "sx+d", "sx+e", "sx+f")
	waits(t, x, 0, 3)
	tick(t, x, 0)
	waits(t, x, 0, 0)
	tells(t, x, 0, "sx", "a,b,c,d,e,f")
}

func TestP8Errors(t *testing.T) {
	x := cluster(t, 2, 10)
	do(t, x, 0, "sx+a")
	for _, i := range []int{math.MinInt, -1, 2, 6, math.MaxInt} {
		if n, e := x.Waiting(i); n != 0 || e != api.ErrReplica {
			t.Errorf("Waiting(%d): %d, %d", i, n, e)
		}
		if e := x.Tick(i); e != api.ErrReplica {
			t.Errorf("Tick(%d): %d", i, e)
		}
	}
	waits(t, x, 0, 1)
	waits(t, x, 1, 0)
}

const longest = "mabcd/mabcd/cabcd>-1000000000"

func TestP8WholeFrames(t *testing.T) {
	for replicas := 2; replicas <= api.MaxReplicas; replicas++ {
		x := cluster(t, replicas, 10)
		isShort(t, x, send(t, x, 0, 1), 200)
		for k := range api.MaxEvents {
			do(t, x, k%replicas, longest)
		}
		for i := 1; i < replicas; i++ {
			deliver(t, x, send(t, x, i, 0))
		}
		f := send(t, x, 0, 1)
		isShort(t, x, f, 200+80*api.MaxEvents)
		a := deliver(t, x, f)
		isShort(t, x, a, 80)
		knows(t, x, 1, api.MaxEvents)
	}
}

// What is covered needs no room.
func TestP8WholeFramesOfWhatIsAlive(t *testing.T) {
	x := cluster(t, 3, 10)
	for range 40 {
		do(t, x, 0, "sx+abcdefgh", "fx^", "rx=abcdefgh", "mx!", "sx-abcdefgh")
		do(t, x, 1, "sx+abcdefgh", "fx^", "rx=abcdefgh", "mx!", "sx-abcdefgh")
	}
	deliver(t, x, send(t, x, 1, 0))
	isShort(t, x, send(t, x, 0, 2), 200+80*4)
	do(t, x, 0, "fx_", "rx!")
	f := send(t, x, 0, 2)
	isShort(t, x, f, 200)
	deliver(t, x, f)
	knows(t, x, 2, 402)
	tells(t, x, 2, "sx", "", "fx", "0", "rx", "")
}

func TestP8NothingNew(t *testing.T) {
	for _, room := range []int{0, 1, 50} {
		x := cluster(t, 2, room)
		for range 200 {
			do(t, x, 0, longest)
		}
		deliver(t, x, deliver(t, x, send(t, x, 0, 1)))
		isShort(t, x, send(t, x, 0, 1), 80)
		tick(t, x, 0)
		isShort(t, x, send(t, x, 0, 1), 80)
	}
}

// What one has brought need not go back to it.
func TestP8NothingComesBack(t *testing.T) {
	x := cluster(t, 3, 50)
	for range 200 {
		do(t, x, 0, longest)
	}
	deliver(t, x, send(t, x, 0, 1))
	isShort(t, x, send(t, x, 1, 0), 80)
	do(t, x, 1, "fx^")
	f := send(t, x, 1, 0)
	isShort(t, x, f, 160)
	deliver(t, x, f)
	tells(t, x, 0, "fx", "1", "mabcd", "mabcd")
	knows(t, x, 0, 201)
	deliver(t, x, send(t, x, 1, 2))
	knows(t, x, 2, 201)
}

func TestP8WhatIsNewAlone(t *testing.T) {
	x := cluster(t, 3, 50)
	for range 100 {
		do(t, x, 0, longest)
	}
	deliver(t, x, deliver(t, x, send(t, x, 0, 1)))
	for k := range 40 {
		do(t, x, 0, longest)
		f := send(t, x, 0, 1)
		isShort(t, x, f, 80+80*(k+1))
		if k%2 == 0 {
			deliver(t, x, f)
		}
	}
	for k := range 40 {
		do(t, x, 2, "mx/sx+"+strconv.Itoa(10000000+k))
	}
	deliver(t, x, send(t, x, 2, 0))
	f := send(t, x, 0, 1)
	isShort(t, x, f, 80+80*80)
	a := deliver(t, x, f)
	isShort(t, x, a, 80)
	knows(t, x, 1, 180)
	deliver(t, x, a)
	isShort(t, x, send(t, x, 0, 1), 80)
}

// Each is told of what it has not acknowledged itself.
func TestP8EachNeighbourForItself(t *testing.T) {
	x := cluster(t, 3, 50)
	for range 30 {
		do(t, x, 0, longest)
	}
	deliver(t, x, deliver(t, x, send(t, x, 0, 1)))
	f := send(t, x, 0, 2)
	deliver(t, x, f)
	knows(t, x, 2, 30)
	isShort(t, x, send(t, x, 0, 1), 80)
	do(t, x, 0, "cx>1")
	deliver(t, x, send(t, x, 0, 2))
	deliver(t, x, send(t, x, 0, 1))
	tells(t, x, 1, "cx", "1")
	tells(t, x, 2, "cx", "1")
	knows(t, x, 1, 31)
	knows(t, x, 2, 31)
}

// Effects that have gone take at most 8 bytes each, and no frame more than the
// one that brings all.
func TestP8WhatHasGone(t *testing.T) {
	x := cluster(t, 2, 50)
	for range 160 {
		do(t, x, 0, "sx+a", "cx>1", longest)
	}
	deliver(t, x, deliver(t, x, send(t, x, 0, 1)))
	do(t, x, 0, "cx!")
	f := send(t, x, 0, 1)
	isShort(t, x, f, 80+80+8*160)
	deliver(t, x, f)
	tells(t, x, 1, "cx", "0", "sx", "a", "mabcd/mabcd/cabcd", "-160000000000")
	do(t, x, 0, "mabcd!", "sx!")
	f = send(t, x, 0, 1)
	isShort(t, x, f, 200)
	deliver(t, x, f)
	tells(t, x, 1, "cx", "0", "sx", "", "mabcd/mabcd/cabcd", "0")
	knows(t, x, 1, 483)
}

// An effect that has come and gone since the acknowledgement counts as an event.
func TestP8WhatHasComeAndGone(t *testing.T) {
	x := cluster(t, 2, 50)
	for range 60 {
		do(t, x, 0, longest)
	}
	deliver(t, x, deliver(t, x, send(t, x, 0, 1)))
	for range 10 {
		do(t, x, 0, "rx=abcdefgh", "fx^", "sx+abcdefgh", "sx-abcdefgh")
	}
	f := send(t, x, 0, 1)
	isShort(t, x, f, 80+80*40)
	deliver(t, x, f)
	tells(t, x, 1, "rx", "abcdefgh", "fx", "1", "sx", "", "mabcd/mabcd/cabcd", "-60000000000")
	knows(t, x, 1, 100)
}

// What was dropped is sent as a whole; and once that is acknowledged, what is new
// alone is sent again.
func TestP8BeyondTheRoom(t *testing.T) {
	x := cluster(t, 3, 2)
	for range 20 {
		do(t, x, 0, longest)
	}
	deliver(t, x, deliver(t, x, send(t, x, 0, 1)))
	do(t, x, 0, "sx+a", "sx+b")
	isShort(t, x, send(t, x, 0, 1), 80+160)
	do(t, x, 0, "sx+c", "sx-a", "mabcd!", longest)
	waits(t, x, 0, 2)
	f := send(t, x, 0, 1)
	isShort(t, x, f, 200+80*3)
	a := deliver(t, x, f)
	tells(t, x, 1, "sx", "b,c", "mabcd/mabcd/cabcd", "-1000000000")
	knows(t, x, 1, 26)
	do(t, x, 0, "sx+d")
	deliver(t, x, a)
	isShort(t, x, send(t, x, 0, 1), 80+80)
	deliver(t, x, send(t, x, 0, 2))
	knows(t, x, 2, 27)
	tells(t, x, 2, "sx", "b,c,d", "mabcd/mabcd/cabcd", "-1000000000")
}

// A frame that brings only what is new may be late, or come again.
func TestP8SlimFramesInAnyOrder(t *testing.T) {
	x := cluster(t, 3, 50)
	do(t, x, 0, "sx+a", "sx+b", "cx>1")
	deliver(t, x, deliver(t, x, send(t, x, 0, 1)))
	do(t, x, 0, "sx-a", "sx+c")
	first := send(t, x, 0, 1)
	do(t, x, 0, "sx+a", "sx-c", "cx!")
	second := send(t, x, 0, 1)
	do(t, x, 1, "sx-b", "cx>2")
	for _, f := range []int{second, first, second, first} {
		deliver(t, x, f)
		tells(t, x, 1, "sx", "a", "cx", "2")
		knows(t, x, 1, 10)
	}
	deliver(t, x, send(t, x, 1, 2))
	deliver(t, x, send(t, x, 1, 0))
	for i := range 3 {
		tells(t, x, i, "sx", "a", "cx", "2")
		knows(t, x, i, 10)
	}
}
