package wire

import (
	"math/rand"
	"reflect"
	"strconv"
	"strings"
	"testing"

	"thicket/changes"
	"thicket/dots"
)

func TestNumbers(t *testing.T) {
	for _, n := range []int{0, 1, 127, 128, 129, 500, 16383, 16384, 2097151, 2097152, 1<<28 - 1} {
		r := NewReader(string(Number(nil, n)))
		if got := r.Number(0, 1<<28-1); got != n || !r.AtEnd() {
			t.Errorf("%d came as %d", n, got)
		}
		for _, bounds := range [][2]int{{n + 1, 1 << 28}, {0, n - 1}} {
			r := NewReader(string(Number(nil, n)))
			if got := r.Number(bounds[0], bounds[1]); got != 0 || r.AtEnd() {
				t.Errorf("%d came as %d from %d to %d", n, got, bounds[0], bounds[1])
			}
		}
	}
}

func TestTexts(t *testing.T) {
	for _, text := range []string{"", "a", "\x00\xff", strings.Repeat("x", 127), strings.Repeat("x", 128), strings.Repeat("y", 20000)} {
		out := string(Number(Text(nil, text), 5))
		r := NewReader(out)
		if got := r.Text(); got != text || r.Number(0, 9) != 5 || !r.AtEnd() {
			t.Errorf("%.20q came as %.20q", text, got)
		}
	}
}

func TestWrongBytes(t *testing.T) {
	for _, bytes := range []string{"", "\x80", "\xff\xff\xff\xff", "\xff\xff\xff\xff\x01", "\x03ab", "\x02a"} {
		r := NewReader(bytes)
		if got := r.Text(); got != "" || r.AtEnd() {
			t.Errorf("%q came as %q", bytes, got)
		}
		if r.Number(0, 9) != 0 || r.Text() != "" || r.Store().Known() != 0 || r.AtEnd() {
			t.Errorf("%q: something was read behind what was wrong", bytes)
		}
	}
	if r := NewReader("\x01\x01"); r.Number(0, 9) != 1 || r.AtEnd() {
		t.Error("at the end, with a byte left")
	}
}

func some(source *rand.Rand, most int) dots.Store[changes.Change] {
	effects := map[dots.Dot]changes.Change{}
	var known []dots.Dot
	for range source.Intn(most + 1) {
		d := dots.Dot{Who: source.Intn(6), Nth: 1 + source.Intn(MostEvents)}
		known = append(known, d)
		n := source.Intn(2000000001) - 1000000000
		switch source.Intn(6) {
		case 0:
			effects[d] = changes.Change{Path: "mabcd/mabcd/cabcd", Action: changes.Count, Number: int64(n)}
		case 1:
			effects[d] = changes.Change{Path: "sx", Action: changes.Add, Value: strconv.Itoa(n & 0xffff)}
		case 2:
			effects[d] = changes.Change{Path: "mx/fa", Action: changes.Raise}
		case 3:
			effects[d] = changes.Change{Path: "rz", Action: changes.Write, Value: "abcdefgh"}
		}
	}
	return dots.Of(effects, known...)
}

func TestStores(t *testing.T) {
	source := rand.New(rand.NewSource(1))
	for range 300 {
		s := some(source, 30)
		out := Store(nil, s)
		r := NewReader(string(out))
		if got := r.Store(); !reflect.DeepEqual(got, s) || !r.AtEnd() {
			t.Fatalf("%v came as %v", s, got)
		}
		for k := range out {
			r := NewReader(string(out[:k]))
			if r.Store(); r.AtEnd() {
				t.Fatalf("%q was read whole without its end", out)
			}
		}
	}
}

func TestStoresThatAreNone(t *testing.T) {
	effect := func(text string) string { return string(Text([]byte{0, 1, 0, 1}, text)) }
	for _, bytes := range []string{
		"", "\x01", "\x01\x06\x01\x01\x00", "\x01\x00\x00\x01\x00", "\x01\x00\x01\x00\x00", "\x01\x00\xfa\x03\x01\x00", "\x01\x00\x01\xfa\x03\x00", "\xfa\x03\x00",
		"\x00\x01\x06\x01\x04sx+a", "\x00\x01\x00\x00\x04sx+a", effect(""), effect("sx"), effect("sx-a"), effect("mx!"), effect("fx_"), effect("sx+A"), effect("cx>01"),
	} {
		r := NewReader(bytes)
		if r.Store(); r.AtEnd() {
			t.Errorf("%q was read", bytes)
		}
	}
	r := NewReader(effect("sx+a"))
	if s := r.Store(); s.Known() != 1 || s.Items() != 1 || !r.AtEnd() {
		t.Errorf("a store of one effect: %v", s)
	}
}

// Whatever bytes come, reading ends, and does not panic.
func TestAnyBytes(t *testing.T) {
	source := rand.New(rand.NewSource(2))
	for range 20000 {
		bytes := Store(nil, some(source, 5))
		for range 1 + source.Intn(3) {
			bytes[source.Intn(len(bytes))] = byte(source.Intn(256))
		}
		NewReader(string(bytes)).Store()
	}
}

func TestSealed(t *testing.T) {
	for _, text := range []string{"", "\x00", "\x00\x00", "a", "some text", strings.Repeat("\xff", 300)} {
		sealed := string(Seal([]byte(text)))
		if got, ok := Unseal(sealed); got != text || !ok {
			t.Errorf("%.20q came as %.20q, %v", text, got, ok)
		}
		for k := range len(sealed) {
			if got, ok := Unseal(sealed[:k]); got != "" || ok {
				t.Errorf("%d bytes of %.20q came as %.20q", k, sealed, got)
			}
			for turn := 1; turn < 256; turn++ {
				spoilt := []byte(sealed)
				spoilt[k] ^= byte(turn)
				if got, ok := Unseal(string(spoilt)); got != "" || ok {
					t.Errorf("%.20q came as %.20q, with byte %d another one", text, got, k)
				}
			}
		}
		if _, ok := Unseal(sealed + "\x00"); ok {
			t.Errorf("%.20q was taken with a byte more", text)
		}
	}
}
