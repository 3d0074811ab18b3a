// Package frames: what goes from replica to replica, as bytes.
package frames

import (
	"thicket/api"
	"thicket/changes"
	"thicket/dots"
	"thicket/wire"
)

// Frame brings what its sender has learnt, or acknowledges a frame that brought
// something. A frame's mark is how many events its sender knew; that of an
// acknowledgement is the mark of the frame that it is for.
type Frame struct {
	From         int
	Mark         int
	Acknowledges bool
	Brings       dots.Store[changes.Change]
}

// The first number of a frame's bytes says what it is.
const (
	brings = iota
	acknowledges
)

// Bytes is the frame as it is sent.
func (f Frame) Bytes() string {
	if f.Acknowledges {
		return string(wire.Seal(f.head(acknowledges)))
	}
	return string(wire.Seal(wire.Store(f.head(brings), f.Brings)))
}

func (f Frame) head(kind int) []byte {
	return wire.Number(wire.Number(wire.Number(nil, kind), f.From), f.Mark)
}

// Read takes bytes for a frame: not ok, if they are none, or not as they were
// sent.
func Read(bytes string) (f Frame, ok bool) {
	inside, ok := wire.Unseal(bytes)
	if !ok {
		return Frame{}, false
	}
	r := wire.NewReader(inside)
	f.Acknowledges = r.Number(brings, acknowledges) == acknowledges
	f.From = r.Number(0, api.MaxReplicas-1)
	f.Mark = r.Number(0, wire.MostEvents)
	if !f.Acknowledges {
		f.Brings = r.Store()
	}
	if !r.AtEnd() {
		return Frame{}, false
	}
	return f, true
}
