package replica

import (
	"maps"
	"testing"

	"thicket/api"
	"thicket/changes"
)

func accept(t *testing.T, r *Replica, texts ...string) {
	t.Helper()
	for _, text := range texts {
		c, e := changes.Read(text)
		if e != api.OK {
			t.Fatalf("%q is no change: %d", text, e)
		}
		r.Accept(c)
	}
}

func TestAccept(t *testing.T) {
	r := New(3)
	if r.Knows() != 0 || r.Made() != 0 || r.Tell("sx") != "" {
		t.Errorf("a new replica: %d, %d, %q", r.Knows(), r.Made(), r.Tell("sx"))
	}
	accept(t, r, "sx+a", "sx+b", "sx-a", "fx_", "mx!")
	if r.Knows() != 5 || r.Made() != 5 || r.Tell("sx") != "b" {
		t.Errorf("behind five events: %d, %d, %q", r.Knows(), r.Made(), r.Tell("sx"))
	}
}

// Only what is alive is kept: what was covered takes no room.
func TestKeepsWhatIsAliveAlone(t *testing.T) {
	r := New(0)
	for range 50 {
		accept(t, r, "sx+a", "fx^", "rx=1", "mx/cx>1", "mx!")
	}
	if n := len(maps.Collect(r.known.All())); n != 3 || r.Knows() != 250 {
		t.Errorf("%d effects kept, %d events known", n, r.Knows())
	}
}
