// Package frames: what goes from replica to replica, as bytes.
package frames

import (
	"thicket/api"
	"thicket/changes"
	"thicket/dots"
	"thicket/wire"
)

// Frame brings what its sender knows, or is an acknowledgement, which brings
// nothing.
type Frame struct {
	From         int
	Acknowledges bool
	Brings       dots.Store[changes.Change]
}

// The first number of a frame's bytes says what it is.
const (
	brings = iota
	acknowledges
)

// Bytes is the frame as it is sent.
func (f Frame) Bytes() string {
	if f.Acknowledges {
		return string(f.ahead(acknowledges))
	}
	return string(wire.Store(f.ahead(brings), f.Brings))
}

func (f Frame) ahead(kind int) []byte {
	return wire.Number(wire.Number(nil, kind), f.From)
}

// Read takes bytes for a frame: not ok, if they are none.
func Read(bytes string) (f Frame, ok bool) {
	r := wire.NewReader(bytes)
	f.Acknowledges = r.Number(brings, acknowledges) == acknowledges
	f.From = r.Number(0, api.MaxReplicas-1)
	if !f.Acknowledges {
		f.Brings = r.Store()
	}
	if !r.AtEnd() {
		return Frame{}, false
	}
	return f, true
}
