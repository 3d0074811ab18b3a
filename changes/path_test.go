package changes

import (
	"strings"
	"testing"
)

func TestReadPath(t *testing.T) {
	for _, s := range []string{"sx", "fa", "rz", "cabcd", "mzzzz", "ma/sb", "ma/mb/mc", "mabcd/mabcd/sabcd", "ss", "mm/mm/mm"} {
		if p, ok := ReadPath(s); !ok || string(p) != s {
			t.Errorf("ReadPath(%q) = %q, %v", s, p, ok)
		}
	}
	for _, s := range []string{
		"", "/", "s", "m", "x", "xa", "Sx", "sX", "s1", "sabcde", "s`", "s{", "sx ", " sx", "sé", "s\xff", "s\x00",
		"/sx", "sx/", "ma/", "ma//sb", "sa/sb", "fa/sb", "ra/sb", "ca/sb", "ma/sb/sc", "m/sa", "mabcde/sa", "ma/s",
		"ma/mb/mc/sd", "ma/mb/mc/md", "ma/mb/mc/", strings.Repeat("ma/", 100000) + "sa", "s" + strings.Repeat("a", 100000),
	} {
		if p, ok := ReadPath(s); ok || p != "" {
			t.Errorf("ReadPath(%.20q) = %.20q, %v", s, p, ok)
		}
	}
}

func TestKind(t *testing.T) {
	for p, want := range map[Path]Kind{"sx": Set, "fm": Flag, "rs": Register, "cm": Counter, "ms": Map, "ma/sb": Set, "ma/mb/cm": Counter, "ms/ms/ms": Map} {
		if p.Kind() != want {
			t.Errorf("%q: kind %q, want %q", p, p.Kind(), want)
		}
	}
}

func TestHoldsAndStep(t *testing.T) {
	for _, c := range []struct {
		p, other Path
		holds    bool
		step     string
	}{
		{"ma", "ma", true, ""},
		{"sa", "sa", true, ""},
		{"ma", "ma/sb", true, "sb"},
		{"ma", "ma/mb/sc", true, "mb"},
		{"ma/mb", "ma/mb/sc", true, "sc"},
		{"ma", "mab", false, ""},
		{"ma", "mab/sc", false, ""},
		{"mab", "ma/sb", false, ""},
		{"ma/sb", "ma", false, ""},
		{"mb", "ma/mb/sc", false, ""},
		{"ma", "ra", false, ""},
	} {
		if got := c.p.Holds(c.other); got != c.holds {
			t.Errorf("%q holds %q: %v", c.p, c.other, got)
		}
		if got, ok := c.p.Step(c.other); got != c.step || ok != (c.step != "") {
			t.Errorf("%q steps to %q by %q, %v", c.p, c.other, got, ok)
		}
	}
}
