package replica

import (
	"maps"
	"reflect"
	"testing"

	"thicket/api"
	"thicket/changes"
	"thicket/frames"
)

func accept(t *testing.T, r *Replica, texts ...string) {
	t.Helper()
	for _, text := range texts {
		c, e := changes.Read(text)
		if e != api.OK {
			t.Fatalf("%q is no change: %d", text, e)
		}
		r.Accept(c)
	}
}

func TestAccept(t *testing.T) {
	r := New(3)
	if r.Knows() != 0 || r.Made() != 0 || r.Tell("sx") != "" {
		t.Errorf("a new replica: %d, %d, %q", r.Knows(), r.Made(), r.Tell("sx"))
	}
	accept(t, r, "sx+a", "sx+b", "sx-a", "fx_", "mx!")
	if r.Knows() != 5 || r.Made() != 5 || r.Tell("sx") != "b" {
		t.Errorf("behind five events: %d, %d, %q", r.Knows(), r.Made(), r.Tell("sx"))
	}
}

// Only what is alive is kept: what was covered takes no room.
func TestKeepsWhatIsAliveAlone(t *testing.T) {
	r := New(0)
	for range 50 {
		accept(t, r, "sx+a", "fx^", "rx=1", "mx/cx>1", "mx!")
	}
	if n := len(maps.Collect(r.known.All())); n != 3 || r.Knows() != 250 {
		t.Errorf("%d effects kept, %d events known", n, r.Knows())
	}
}

// carry sends what one knows to another, by its bytes.
func carry(t *testing.T, from, to *Replica) frames.Frame {
	t.Helper()
	f, ok := frames.Read(from.Send().Bytes())
	if !ok || f.Acknowledges || f.From != from.who {
		t.Fatalf("%v is sent by %d", f, from.who)
	}
	return to.Receive(f)
}

func TestReceive(t *testing.T) {
	a, b := New(0), New(4)
	accept(t, a, "sx+a", "sx+b", "sx-a", "fx^")
	accept(t, b, "sx+a", "cx>3")
	if f := carry(t, a, b); !f.Acknowledges || f.From != 4 {
		t.Errorf("the acknowledgement: %v", f)
	}
	if b.Knows() != 6 || b.Made() != 2 || b.Tell("sx") != "a,b" || b.Tell("fx") != "1" || b.Tell("cx") != "3" {
		t.Errorf("%d known, %d made, %q", b.Knows(), b.Made(), b.Tell("sx"))
	}
	accept(t, b, "sx!", "fx_")
	carry(t, a, b)
	if b.Knows() != 8 || b.Tell("sx") != "" || b.Tell("fx") != "0" {
		t.Errorf("what was covered came again: %q", b.Tell("sx"))
	}
	accept(t, a, "sx+c")
	carry(t, b, a)
	if a.Knows() != 9 || a.Made() != 5 || a.Tell("sx") != "c" || a.Tell("cx") != "3" {
		t.Errorf("%d known, %d made, %q", a.Knows(), a.Made(), a.Tell("sx"))
	}
	carry(t, a, b)
	if !reflect.DeepEqual(a.known, b.known) {
		t.Errorf("%v and %v", a.known, b.known)
	}
}
