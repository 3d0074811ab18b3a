// Package disk: what outlives a crash.
package disk

import "thicket/wire"

// Disk has two slots that are written in turn: what has an even number goes to the
// first one. A write takes the number behind that of the last one that is whole,
// and so leaves this one alone: there is always one that is whole, wherever a
// write is cut off.
type Disk struct {
	slots [2]string
	cuts  bool // the next write is cut off,
	after int  // after so many bytes
}

// New is a disk on which something is written.
func New(first string) *Disk {
	d := &Disk{}
	d.put(0, sealed(0, first))
	return d
}

// Read is what was written last as a whole.
func (d *Disk) Read() string {
	_, what := d.newest()
	return what
}

// Write writes the next slot: not ok, if that was cut off, be it behind the last
// byte.
func (d *Disk) Write(what string) (ok bool) {
	last, _ := d.newest()
	bytes := sealed(last+1, what)
	if !d.cuts {
		d.put(last+1, bytes)
		return true
	}
	d.put(last+1, bytes[:min(d.after, len(bytes))])
	d.cuts = false
	return false
}

// CutOff lets the next write be cut off after so many bytes.
func (d *Disk) CutOff(after int) { d.cuts, d.after = true, after }

// put empties a slot ahead of what it writes: bytes of an older write that
// stayed behind new ones could make these whole.
func (d *Disk) put(number int, bytes string) { d.slots[number%len(d.slots)] = bytes }

// newest is the number of the slot that was written last as a whole, and what is
// in it.
func (d *Disk) newest() (number int, what string) {
	for _, slot := range d.slots {
		n, inside, whole := opened(slot)
		if whole && n >= number {
			number, what = n, inside
		}
	}
	return number, what
}

// sealed is what is written to a slot: its number, what it is for, and the sum.
// The length stands ahead of what it is for, so that a slot that lacks its end is
// never whole, whatever its sum.
func sealed(number int, what string) string {
	return string(wire.Seal(wire.Text(wire.Number(nil, number), what)))
}

func opened(slot string) (number int, what string, whole bool) {
	inside, ok := wire.Unseal(slot)
	if !ok {
		return 0, "", false
	}
	r := wire.NewReader(inside)
	number = r.Number(0, wire.MostNumber)
	what = r.Text()
	return number, what, r.AtEnd()
}
