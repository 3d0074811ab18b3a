package changes

import (
	"math/big"
	"regexp"
	"strings"
	"testing"

	"thicket/api"
)

var (
	changeForm = regexp.MustCompile(`(?s)^((?:m[a-z]{1,4}/){0,2}([sfrcm])[a-z]{1,4})([-+^_=>!])(.*)$`)
	valueForm  = regexp.MustCompile(`^[a-z0-9]{1,8}$`)
	numberForm = regexp.MustCompile(`^(0|-?[1-9][0-9]*)$`)
)

// expected reads a change another way than the program does.
func expected(text string) api.Errno {
	parts := changeForm.FindStringSubmatch(text)
	if parts == nil {
		return api.ErrPath
	}
	kind, action, operand := parts[2], parts[3], parts[4]
	allowed := map[string]string{"s": "+-", "f": "^_", "r": "=", "c": ">"}[kind]
	if action != "!" && !strings.Contains(allowed, action) {
		return api.ErrKind
	}
	fits := operand == ""
	switch action {
	case "+", "-", "=":
		fits = valueForm.MatchString(operand)
	case ">":
		n, ok := new(big.Int).SetString(operand, 10)
		fits = ok && numberForm.MatchString(operand) && n.CmpAbs(big.NewInt(1000000000)) <= 0
	}
	if !fits {
		return api.ErrOp
	}
	return api.OK
}

func check(t *testing.T, text string) {
	t.Helper()
	c, e := Read(text)
	if want := expected(text); e != want {
		t.Errorf("Read(%q): %d, want %d", text, e, want)
	}
	if e != api.OK && c != (Change{}) {
		t.Errorf("Read(%q): an error with %v", text, c)
	}
	if e == api.OK && c.Text() != text {
		t.Errorf("%q told again: %q", text, c.Text())
	}
}

// each goes through all texts of up to so many of the pieces.
func each(pieces []string, most int, ahead string, visit func(string)) {
	visit(ahead)
	if most == 0 {
		return
	}
	for _, p := range pieces {
		each(pieces, most-1, ahead+p, visit)
	}
}

func TestReadAllShortTexts(t *testing.T) {
	each(strings.Split("smcfr/+-^_=>!01aA\xff", ""), 4, "", func(s string) { check(t, s) })
	each([]string{"sx", "mab", "mabcd", "mabcde", "/", "+", "!", "a", "x0"}, 6, "", func(s string) { check(t, s) })
	for _, path := range []string{"sx", "fx", "rx", "cx", "mx", "mx/my/sz", "mx/my/cz"} {
		for _, action := range actions {
			each([]string{"0", "1", "9", "-", "+", "a", "z", "A", " ", ",", "/", "!", "\n"}, 3, path+string(action), func(s string) { check(t, s) })
		}
	}
}

func TestReadEdges(t *testing.T) {
	for text, want := range map[string]api.Errno{
		"sx+abcdefgh": api.OK, "sx+abcdefghi": api.ErrOp, "sx-01234567": api.OK, "sx-012345678": api.ErrOp, "rx=zzzzzzzz": api.OK, "rx=zzzzzzzzz": api.ErrOp,
		"cx>0": api.OK, "cx>1000000000": api.OK, "cx>1000000001": api.ErrOp, "cx>-1000000000": api.OK, "cx>-1000000001": api.ErrOp,
		"cx>9223372036854775807": api.ErrOp, "cx>9223372036854775808": api.ErrOp, "cx>18446744073709551617": api.ErrOp, "cx>4294967297": api.ErrOp,
		"cx>0x1": api.ErrOp, "cx>1_0": api.ErrOp, "cx>1e3": api.ErrOp, "cx>--1": api.ErrOp, "cx>00": api.ErrOp, "cx>-": api.ErrOp, "cx>- 1": api.ErrOp,
		"sabcd+a": api.OK, "sabcde+a": api.ErrPath, "mx/my/mz!": api.OK, "mx/my/mz/mq!": api.ErrPath,
		"sx+é": api.ErrOp, "sx+\xff": api.ErrOp, "sé+a": api.ErrPath, "\xff": api.ErrPath,
		"mx+": api.ErrKind, "fx+A": api.ErrKind, "sx/sy=A": api.ErrPath,
		"sx+" + strings.Repeat("a", 1000000): api.ErrOp, "cx>" + strings.Repeat("1", 1000000): api.ErrOp, strings.Repeat("a", 1000000): api.ErrPath,
	} {
		if _, e := Read(text); e != want {
			t.Errorf("Read(%.30q): %d, want %d", text, e, want)
		}
	}
}

func TestReadParts(t *testing.T) {
	for text, want := range map[string]Change{
		"sx+a1":             {Path: "sx", Action: Add, Value: "a1"},
		"ma/sx-b":           {Path: "ma/sx", Action: Take, Value: "b"},
		"fx^":               {Path: "fx", Action: Raise},
		"fx_":               {Path: "fx", Action: Lower},
		"rx=0":              {Path: "rx", Action: Write, Value: "0"},
		"ma/mb/cx>-1000000": {Path: "ma/mb/cx", Action: Count, Number: -1000000},
		"ma/mb!":            {Path: "ma/mb", Action: Clear},
	} {
		c, e := Read(text)
		if c != want || e != api.OK {
			t.Errorf("Read(%q) = %v, %d", text, c, e)
		}
		if c.Text() != text {
			t.Errorf("%q told again: %q", text, c.Text())
		}
	}
}

func TestIsEffect(t *testing.T) {
	for _, a := range actions {
		c := Change{Action: Action(a)}
		if c.IsEffect() != strings.ContainsRune("+^=>", a) {
			t.Errorf("%q: effect %v", a, c.IsEffect())
		}
	}
}

func TestCovers(t *testing.T) {
	for _, c := range []struct {
		by, effect string
		want       bool
	}{
		{"sx+a", "sx+a", true}, {"sx-a", "sx+a", true}, {"sx+a", "sx+b", false}, {"sx-a", "sx+b", false}, {"sx-a", "sy+a", false}, {"ma/sx-a", "sx+a", false},
		{"fx^", "fx^", true}, {"fx_", "fx^", true}, {"fx_", "fy^", false},
		{"rx=a", "rx=b", true}, {"rx=a", "rx=a", true}, {"rx=a", "ry=a", false}, {"rx=a", "sx+a", false},
		{"cx>1", "cx>1", false}, {"cx>-1", "cx>1", false},
		{"sx!", "sx+a", true}, {"fx!", "fx^", true}, {"rx!", "rx=a", true}, {"cx!", "cx>0", true}, {"sx!", "rx=a", false}, {"sx!", "sxx+a", false},
		{"mx!", "mx/sx+a", true}, {"mx!", "mx/my/cx>1", true}, {"mx/my!", "mx/my/cx>1", true}, {"mx/my!", "mx/sy+a", false}, {"mx!", "mxx/sx+a", false}, {"my!", "mx/my/cx>1", false}, {"mx/sx!", "mx/sx+a", true}, {"mx!", "sx+a", false},
	} {
		by, e1 := Read(c.by)
		effect, e2 := Read(c.effect)
		if e1 != api.OK || e2 != api.OK || by.Covers(effect) != c.want {
			t.Errorf("%q covers %q: %v (%d, %d)", c.by, c.effect, by.Covers(effect), e1, e2)
		}
	}
}
