package frames

import (
	"reflect"
	"testing"

	"thicket/api"
	"thicket/changes"
	"thicket/dots"
	"thicket/wire"
)

func added(value string) changes.Change {
	return changes.Change{Path: "mx/sa", Action: changes.Add, Value: value}
}

func examples() []Frame {
	one := dots.One(dots.Dot{Who: 2, Nth: 9}, added("a"))
	gone := dots.Gone[changes.Change](dots.Dot{Who: 0, Nth: 1}, dots.Dot{Who: 0, Nth: 2})
	return []Frame{
		{From: 0, Brings: dots.Gone[changes.Change]()},
		{From: 5, Mark: 500, Brings: one},
		{From: 1, Mark: 2, Brings: gone},
		{From: 3, Mark: 127, Brings: dots.Join(one, gone, dots.One(dots.Dot{Who: 5, Nth: 500}, added("zzzzzzzz")))},
		{From: 0, Acknowledges: true},
		{From: 5, Mark: wire.MostEvents, Acknowledges: true},
	}
}

func TestThereAndBack(t *testing.T) {
	for _, f := range examples() {
		if got, ok := Read(f.Bytes()); !ok || !reflect.DeepEqual(got, f) {
			t.Errorf("%v came as %v, %v", f, got, ok)
		}
	}
}

func TestNoFrames(t *testing.T) {
	for _, f := range examples() {
		whole := f.Bytes()
		for k := range len(whole) {
			if got, ok := Read(whole[:k]); ok || !reflect.DeepEqual(got, Frame{}) {
				t.Errorf("%d bytes of %q came as %v", k, whole, got)
			}
		}
		if _, ok := Read(whole + "\x00"); ok {
			t.Errorf("%q was read with a byte more", whole)
		}
	}
	for _, bytes := range []string{"", "\x02\x00\x00", "\x00\x06\x00\x00\x00", "\x01\x06\x00", "\x01\x00\xfa\x03", "\x01\x00", "\x01\x00\x00\x00", "\xff\xff\xff\xff\xff\xff"} {
		if _, ok := Read(string(wire.Seal([]byte(bytes)))); ok {
			t.Errorf("%q is no frame", bytes)
		}
	}
}

func TestEveryBitCounts(t *testing.T) {
	for _, f := range examples() {
		whole := f.Bytes()
		for bit := range 8 * len(whole) {
			spoilt := []byte(whole)
			spoilt[bit/8] ^= 1 << (bit % 8)
			if got, ok := Read(string(spoilt)); ok || !reflect.DeepEqual(got, Frame{}) {
				t.Errorf("bit %d of %q turned: %v", bit, whole, got)
			}
		}
	}
}

func TestAcknowledgementsAreShort(t *testing.T) {
	for i := range api.MaxReplicas {
		if n := len(Frame{From: i, Mark: wire.MostEvents, Acknowledges: true}.Bytes()); n == 0 || n > 80 {
			t.Errorf("%d bytes", n)
		}
	}
}
