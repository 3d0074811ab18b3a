package disk

import (
	"math"
	"math/rand"
	"strconv"
	"strings"
	"testing"

	"thicket/wire"
)

func reads(t *testing.T, d *Disk, want string) {
	t.Helper()
	if got := d.Read(); got != want {
		t.Errorf("%.40q is on the disk, want %.40q", got, want)
	}
}

func writes(t *testing.T, d *Disk, what string) {
	t.Helper()
	if !d.Write(what) {
		t.Errorf("%.40q was cut off", what)
	}
	reads(t, d, what)
}

// isCutOff: a write is cut off after so many bytes.
func isCutOff(t *testing.T, d *Disk, what string, after int) {
	t.Helper()
	d.CutOff(after)
	if d.Write(what) {
		t.Errorf("%.40q was not cut off after %d bytes", what, after)
	}
}

func TestReadsWhatWasWrittenLast(t *testing.T) {
	d := New("first")
	reads(t, d, "first")
	reads(t, d, "first")
	for _, what := range []string{"a", "", "\x00\xff", strings.Repeat("x", 30000), "a", "a", "first"} {
		writes(t, d, what)
	}
	for k := range 1000 {
		writes(t, d, strconv.Itoa(k))
	}
	reads(t, New(""), "")
}

// Both slots are in use, and a write leaves the one that was written ahead of it.
func TestSlotsInTurn(t *testing.T) {
	d := New("0")
	for k := 1; k < 300; k++ {
		before := d.slots
		writes(t, d, strconv.Itoa(k))
		if kept := (k + 1) % 2; d.slots[kept] != before[kept] || d.slots[k%2] == before[k%2] {
			t.Errorf("write %d: %q became %q", k, before, d.slots)
		}
	}
}

func TestEveryCut(t *testing.T) {
	texts := []string{"", "a", "b", strings.Repeat("\x00", 20), strings.Repeat("x", 130), strings.Repeat("y", 130), "a"}
	for _, former := range texts {
		for _, older := range texts {
			for _, what := range texts {
				whole := len(sealed(2, what))
				for after := range whole + 3 {
					d := New(older)
					writes(t, d, former)
					isCutOff(t, d, what, after)
					if after < whole {
						reads(t, d, former)
					} else {
						reads(t, d, what)
					}
				}
			}
		}
	}
}

// The slot that is whole stays so, however many writes are cut off one behind the
// other.
func TestManyCuts(t *testing.T) {
	d := New("first")
	for k := range 200 {
		isCutOff(t, d, "second", k%len(sealed(1, "second")))
		reads(t, d, "first")
	}
	isCutOff(t, d, "second", math.MaxInt)
	reads(t, d, "second")
	isCutOff(t, d, "third", 0)
	reads(t, d, "second")
	writes(t, d, "third")
	writes(t, d, "fourth")
}

func TestCutsAtRandom(t *testing.T) {
	source := rand.New(rand.NewSource(1))
	d, last := New(""), ""
	for range 5000 {
		what := strings.Repeat(string(rune('a'+source.Intn(26))), source.Intn(40))
		if source.Intn(2) == 0 {
			writes(t, d, what)
			last = what
			continue
		}
		number, _ := d.newest()
		whole := len(sealed(number+1, what))
		after := source.Intn(whole + 2)
		isCutOff(t, d, what, after)
		if after >= whole {
			last = what
		}
		reads(t, d, last)
	}
}

func TestOneCutIsOne(t *testing.T) {
	d := New("first")
	d.CutOff(0)
	d.CutOff(math.MaxInt)
	reads(t, d, "first")
	if d.Write("second") {
		t.Error("not cut off")
	}
	reads(t, d, "second")
	writes(t, d, "third")
}

// A slot that lacks its end is not whole, even if its sum should be right by chance.
func TestNoSlotWithoutItsEnd(t *testing.T) {
	d := New("first")
	writes(t, d, "second")
	inside, _ := wire.Unseal(d.slots[1])
	for k := range inside {
		d.slots[1] = string(wire.Seal([]byte(inside[:k])))
		reads(t, d, "first")
	}
	d.slots[1] = string(wire.Seal([]byte(inside)))
	reads(t, d, "second")
}

// A slot that is spoilt is not read.
func TestSpoiltSlots(t *testing.T) {
	for bit := range 8 * len(sealed(3, "third")) {
		d := New("first")
		writes(t, d, "second")
		writes(t, d, "2nd")
		writes(t, d, "third")
		spoilt := []byte(d.slots[1])
		spoilt[bit/8] ^= 1 << (bit % 8)
		d.slots[1] = string(spoilt)
		reads(t, d, "2nd")
	}
}
