package thicket_test

import (
	"math"
	"math/rand"
	"sync"
	"testing"

	"thicket/api"
	"thicket/thicket"
)

// spoilAll turns each bit of a frame, one at a time.
func spoilAll(t *testing.T, x *thicket.Cluster, f int) {
	t.Helper()
	for bit := range 8 * len(bytesOf(t, x, f)) {
		spoils(t, x, f, bit, api.ErrFrame)
	}
}

func TestP7NoBitIsLostOnIt(t *testing.T) {
	x := cluster(t, 2, 10)
	do(t, x, 0, "sx+a", "mabcd/mabcd/cabcd>-1000000000", "rx=abcdefgh", "sx-a", "fx^", "cx>0")
	f := send(t, x, 0, 1)
	spoilAll(t, x, f)
	knows(t, x, 1, 0)
	waits(t, x, 1, 0)
	tells(t, x, 1, "sx", "", "mabcd", "", "rx", "", "fx", "0")
	a := deliver(t, x, f)
	if a != f+1 {
		t.Errorf("frames were sent by what was spoilt: %d", a)
	}
	knows(t, x, 1, 6)
	tells(t, x, 1, "sx", "", "mabcd/mabcd/cabcd", "-1000000000", "rx", "abcdefgh", "fx", "1")
}

// A frame that brings nothing, one that brings what is new alone, and one of
// many bytes.
func TestP7FramesOfAllKinds(t *testing.T) {
	x := cluster(t, 3, 10)
	spoilAll(t, x, send(t, x, 0, 1))
	do(t, x, 0, "sx+a", "sx+b")
	deliver(t, x, deliver(t, x, send(t, x, 0, 1)))
	spoilAll(t, x, send(t, x, 0, 1))
	do(t, x, 0, "sx-a", "mx/cx>12345")
	f := send(t, x, 0, 1)
	spoilAll(t, x, f)
	knows(t, x, 1, 2)
	tells(t, x, 1, "sx", "a,b", "mx", "")
	deliver(t, x, f)
	spoilAll(t, x, f)
	knows(t, x, 1, 4)
	tells(t, x, 1, "sx", "b", "mx", "cx")
	for range 30 {
		do(t, x, 2, "mx/my/cz>77777")
	}
	f = send(t, x, 2, 0)
	spoilAll(t, x, f)
	knows(t, x, 0, 4)
	deliver(t, x, f)
	knows(t, x, 0, 34)
}

func TestP7Acknowledgements(t *testing.T) {
	x := cluster(t, 2, 10)
	do(t, x, 0, "sx+a", "sx+b")
	a := deliver(t, x, send(t, x, 0, 1))
	spoilAll(t, x, a)
	tick(t, x, 0)
	waits(t, x, 0, 2)
	deliver(t, x, a)
	tick(t, x, 0)
	waits(t, x, 0, 0)
}

func TestP7TheFrameStays(t *testing.T) {
	x := cluster(t, 2, 10)
	do(t, x, 0, "sx+a", "cx>9")
	f := send(t, x, 0, 1)
	before := bytesOf(t, x, f)
	for bit := range 8 * len(before) {
		spoils(t, x, f, bit, api.ErrFrame)
		if bytesOf(t, x, f) != before {
			t.Fatalf("bit %d is turned in the frame", bit)
		}
	}
}

func TestP7Errors(t *testing.T) {
	x := cluster(t, 2, 10)
	for _, f := range oddNumbers {
		for _, bit := range oddNumbers {
			spoils(t, x, f, bit, api.ErrFrame)
		}
	}
	do(t, x, 0, "sx+a")
	f := send(t, x, 0, 1)
	bits := 8 * len(bytesOf(t, x, f))
	for _, bit := range []int{math.MinInt, -bits, -8, -1, bits, bits + 1, bits + 8, 1 << 40, math.MaxInt} {
		spoils(t, x, f, bit, api.ErrArg)
		spoils(t, x, f+1, bit, api.ErrFrame)
		spoils(t, x, 0, bit, api.ErrFrame)
		spoils(t, x, -f, bit, api.ErrFrame)
	}
	spoils(t, x, f, 0, api.ErrFrame)
	spoils(t, x, f, bits-1, api.ErrFrame)
	knows(t, x, 1, 0)
}

// All frames that may be have been sent: that is no error of Spoil's.
func TestP7WithAllFramesSent(t *testing.T) {
	x := cluster(t, 2, 10)
	do(t, x, 0, "sx+a")
	for range api.MaxFrames {
		send(t, x, 0, 1)
	}
	spoils(t, x, 1, 0, api.ErrFrame)
	spoils(t, x, 1, -1, api.ErrArg)
	spoils(t, x, api.MaxFrames+1, 0, api.ErrFrame)
	knows(t, x, 1, 0)
}

// Frames are spoilt among all else that goes on: nothing else is as if they had
// not been.
func TestP7ChangesNothing(t *testing.T) {
	for seed := range 10 {
		source := rand.New(rand.NewSource(int64(seed)))
		x, m := cluster(t, 3, 5), newModel(5)
		for k, c := range randomChanges(source, 80) {
			do(t, x, c.who, c.text)
			m.do(c)
			m.step(t, x, source)
			f := 1 + source.Intn(len(m.sent))
			spoils(t, x, f, source.Intn(8*len(bytesOf(t, x, f))), api.ErrFrame)
			if k%10 == 9 {
				m.check(t, x)
			}
		}
		if t.Failed() {
			t.Fatalf("seed %d", seed)
		}
	}
}

func TestP2SpoiltByManyGoroutines(t *testing.T) {
	x := cluster(t, 2, 10)
	do(t, x, 0, "sx+a")
	f := send(t, x, 0, 1)
	var all sync.WaitGroup
	for g := range 8 {
		all.Go(func() {
			for bit := range 40 {
				spoils(t, x, f, bit, api.ErrFrame)
				do(t, x, g%2, "cx>1")
				tick(t, x, g%2)
				x.Waiting(g % 2)
			}
		})
	}
	all.Wait()
	knows(t, x, 0, 161)
	knows(t, x, 1, 160)
}
