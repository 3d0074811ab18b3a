package replica

import (
	"maps"
	"reflect"
	"testing"

	"thicket/api"
	"thicket/changes"
	"thicket/frames"
)

func change(t *testing.T, text string) changes.Change {
	t.Helper()
	c, e := changes.Read(text)
	if e != api.OK {
		t.Fatalf("%q is no change: %d", text, e)
	}
	return c
}

func accept(t *testing.T, r *Replica, texts ...string) {
	t.Helper()
	for _, text := range texts {
		if !r.Accept(change(t, text)) {
			t.Errorf("%q was torn", text)
		}
	}
}

func TestAccept(t *testing.T) {
	r := New(3, 10, 0, 1, 2)
	if r.Knows() != 0 || r.Made() != 0 || r.Tell("sx") != "" {
		t.Errorf("a new replica: %d, %d, %q", r.Knows(), r.Made(), r.Tell("sx"))
	}
	accept(t, r, "sx+a", "sx+b", "sx-a", "fx_", "mx!")
	if r.Knows() != 5 || r.Made() != 5 || r.Tell("sx") != "b" {
		t.Errorf("behind five events: %d, %d, %q", r.Knows(), r.Made(), r.Tell("sx"))
	}
}

// Only what is alive is kept: what was covered takes no room.
func TestKeepsWhatIsAliveAlone(t *testing.T) {
	r := New(0, 10, 1)
	for range 50 {
		accept(t, r, "sx+a", "fx^", "rx=1", "mx/cx>1", "mx!")
	}
	if n := len(maps.Collect(r.known.All())); n != 3 || r.Knows() != 250 {
		t.Errorf("%d effects kept, %d events known", n, r.Knows())
	}
}

// carry sends what one knows to another, by its bytes.
func carry(t *testing.T, from, to *Replica) frames.Frame {
	t.Helper()
	f, ok := frames.Read(from.Send(to.who).Bytes())
	if !ok || f.Acknowledges || f.From != from.who {
		t.Fatalf("%v is sent by %d", f, from.who)
	}
	acknowledgement, ok := to.Receive(f)
	if !ok {
		t.Errorf("%v was torn", f)
	}
	return acknowledgement
}

func TestReceive(t *testing.T) {
	a, b := New(0, 10, 4), New(4, 10, 0)
	accept(t, a, "sx+a", "sx+b", "sx-a", "fx^")
	accept(t, b, "sx+a", "cx>3")
	if f := carry(t, a, b); !f.Acknowledges || f.From != 4 {
		t.Errorf("the acknowledgement: %v", f)
	}
	if b.Knows() != 6 || b.Made() != 2 || b.Tell("sx") != "a,b" || b.Tell("fx") != "1" || b.Tell("cx") != "3" {
		t.Errorf("%d known, %d made, %q", b.Knows(), b.Made(), b.Tell("sx"))
	}
	accept(t, b, "sx!", "fx_")
	carry(t, a, b)
	if b.Knows() != 8 || b.Tell("sx") != "" || b.Tell("fx") != "0" {
		t.Errorf("what was covered came again: %q", b.Tell("sx"))
	}
	accept(t, a, "sx+c")
	carry(t, b, a)
	if a.Knows() != 9 || a.Made() != 5 || a.Tell("sx") != "c" || a.Tell("cx") != "3" {
		t.Errorf("%d known, %d made, %q", a.Knows(), a.Made(), a.Tell("sx"))
	}
	carry(t, a, b)
	if !reflect.DeepEqual(a.known, b.known) {
		t.Errorf("%v and %v", a.known, b.known)
	}
}

func waits(t *testing.T, r *Replica, want int) {
	t.Helper()
	if n := r.Waiting(); n != want {
		t.Errorf("%d pieces at %d, want %d", n, r.who, want)
	}
}

func TestPieces(t *testing.T) {
	a, b := New(0, 3, 1), New(1, 3, 0)
	accept(t, a, "sx+a", "sx-a")
	waits(t, a, 2)
	acknowledgement := carry(t, a, b)
	waits(t, b, 1)
	carry(t, a, b)
	waits(t, b, 1)
	a.Tick()
	waits(t, a, 2)
	accept(t, a, "fx^")
	a.Acknowledged(acknowledgement)
	waits(t, a, 3)
	a.Tick()
	waits(t, a, 1)
	accept(t, a, "fx^", "fx^", "fx^")
	waits(t, a, 3)
}

// brings: how many dots and how many effects a frame brings.
func brings(t *testing.T, f frames.Frame, dots, effects int) {
	t.Helper()
	if f.Brings.Known() != dots || f.Brings.Items() != effects {
		t.Errorf("%d dots and %d effects brought, want %d and %d", f.Brings.Known(), f.Brings.Items(), dots, effects)
	}
}

func TestSendsWhatIsNew(t *testing.T) {
	a, b := New(0, 10, 1, 2), New(1, 10, 0, 2)
	accept(t, a, "sx+a", "sx+b", "cx>1")
	brings(t, a.Send(1), 3, 3)
	a.Acknowledged(carry(t, a, b))
	brings(t, a.Send(1), 0, 0)
	brings(t, a.Send(2), 3, 3)
	brings(t, b.Send(0), 0, 0)
	brings(t, b.Send(2), 3, 3)
	accept(t, a, "sx-a", "fx^")
	brings(t, a.Send(1), 3, 1)
	accept(t, b, "sx+a", "rx=1")
	carry(t, b, a)
	brings(t, a.Send(1), 3, 1)
	brings(t, a.Send(2), 7, 5)
	carry(t, a, b)
	if !reflect.DeepEqual(a.known, b.known) {
		t.Errorf("%v and %v", a.known, b.known)
	}
}

// What was dropped is sent with all the rest.
func TestSendsAllBehindAGap(t *testing.T) {
	a, b := New(0, 2, 1), New(1, 2, 0)
	accept(t, a, "sx+a", "sx+b")
	a.Acknowledged(carry(t, a, b))
	accept(t, a, "sx+c", "sx+d")
	brings(t, a.Send(1), 2, 2)
	accept(t, a, "sx-a")
	brings(t, a.Send(1), 5, 3)
	carry(t, a, b)
	if b.Tell("sx") != "b,c,d" || b.Knows() != 5 {
		t.Errorf("%q, %d", b.Tell("sx"), b.Knows())
	}
}

// To tell of each effect that it has gone may take more bytes than all that is left.
func TestSendsAllIfThatIsShorter(t *testing.T) {
	a, b := New(0, 50, 1), New(1, 50, 0)
	for range 30 {
		accept(t, a, "cx>1", "sx-a")
	}
	a.Acknowledged(carry(t, a, b))
	accept(t, a, "cx!")
	brings(t, a.Send(1), 61, 0)
	carry(t, a, b)
	if b.Tell("cx") != "0" || b.Knows() != 61 {
		t.Errorf("%q, %d", b.Tell("cx"), b.Knows())
	}
}

// torn lets a change be torn, and wakes the replica.
func torn(t *testing.T, r *Replica, text string, bytes int) {
	t.Helper()
	r.Tear(bytes)
	if r.IsDown() || r.Accept(change(t, text)) || !r.IsDown() {
		t.Errorf("%q was not torn after %d bytes", text, bytes)
	}
	r.Wake()
	if r.IsDown() {
		t.Error("down behind Wake")
	}
}

func TestCrash(t *testing.T) {
	a, b := New(0, 10, 1), New(1, 10, 0)
	a.Crash()
	if a.Knows() != 0 || a.IsDown() {
		t.Errorf("%d known behind a crash of one that knew nothing", a.Knows())
	}
	accept(t, a, "sx+a", "sx+b", "sx-a", "mx/cx>-5", "fx^", "rx=1")
	accept(t, b, "sx+z", "sx-q")
	carry(t, b, a)
	known := a.known
	a.Crash()
	if !reflect.DeepEqual(a.known, known) || a.IsDown() {
		t.Errorf("%v became %v", known, a.known)
	}
	waits(t, a, 0)
	brings(t, a.Send(1), 8, 5)
	accept(t, a, "sx-b")
	if a.Made() != 7 || a.Tell("sx") != "z" {
		t.Errorf("%d made, %q", a.Made(), a.Tell("sx"))
	}
}

func TestTornChanges(t *testing.T) {
	r := New(0, 10, 1)
	accept(t, r, "sx+a")
	former := r.known
	whole := 0
	for bytes := 0; r.Knows() == 1 && bytes < 1000; bytes++ {
		if !reflect.DeepEqual(r.known, former) {
			t.Fatalf("%v behind %d bytes of a write", r.known, bytes)
		}
		torn(t, r, "sx+b", bytes)
		waits(t, r, 0)
		whole = bytes
	}
	if r.Knows() != 2 || r.Made() != 2 || r.Tell("sx") != "a,b" || whole < 1 || whole > 200+2*80 {
		t.Errorf("%d known, %d made, %q behind all of the %d bytes", r.Knows(), r.Made(), r.Tell("sx"), whole)
	}
	accept(t, r, "sx-b")
	if r.Knows() != 3 || r.Tell("sx") != "a" {
		t.Errorf("%d known, %q", r.Knows(), r.Tell("sx"))
	}
}

func TestTornFrames(t *testing.T) {
	for _, c := range []struct{ bytes, known, pieces int }{{0, 1, 1}, {20, 1, 1}, {1 << 20, 3, 0}} {
		a, b := New(0, 10, 1), New(1, 10, 0)
		accept(t, a, "sx+a", "sx+b")
		accept(t, b, "cx>1")
		b.Tear(c.bytes)
		if f, ok := b.Receive(a.Send(1)); ok || !reflect.DeepEqual(f, frames.Frame{}) || !b.IsDown() {
			t.Errorf("a frame torn after %d bytes: %v, %v", c.bytes, f, ok)
		}
		b.Wake()
		if b.Knows() != c.known {
			t.Errorf("%d known behind %d bytes of a write", b.Knows(), c.bytes)
		}
		carry(t, a, b)
		if b.Knows() != 3 || b.Tell("sx") != "a,b" {
			t.Errorf("%d known, %q", b.Knows(), b.Tell("sx"))
		}
		waits(t, b, c.pieces)
	}
}

// What brings nothing new is not written; nor is it by a crash that a tear is gone.
func TestTearWaitsForAWrite(t *testing.T) {
	a, b := New(0, 10, 1), New(1, 10, 0)
	accept(t, a, "sx+a")
	acknowledgement := carry(t, a, b)
	b.Tear(0)
	carry(t, a, b)
	b.Crash()
	b.Tick()
	b.Acknowledged(acknowledgement)
	carry(t, b, a)
	if b.IsDown() || b.Accept(change(t, "sx+b")) || !b.IsDown() || b.Knows() != 1 {
		t.Error("the tear did not wait")
	}
}
