package values

import (
	"slices"
	"testing"

	"thicket/api"
	"thicket/changes"
)

// at: what changes, all of them effects that are alive, make of a path.
func at(t *testing.T, path string, alive ...string) string {
	t.Helper()
	var effects []changes.Change
	for _, text := range alive {
		c, e := changes.Read(text)
		if e != api.OK {
			t.Fatalf("%q is no change: %d", text, e)
		}
		effects = append(effects, c)
	}
	return At(changes.Path(path), slices.Values(effects))
}

func TestAt(t *testing.T) {
	alive := []string{
		"sx+b", "sx+a", "sx+b", "sx+ab", "sx+0", "sx+9z", "sxy+q", "ma/sx+q",
		"rx=2", "rx=10", "rx=2", "rx=z",
		"fx^", "fx^", "ma/fy^",
		"cx>5", "cx>-7", "cx>0", "cy>3", "cz>0",
		"ma/mb/cn>1", "ma/mb/sn+x", "ma/mbb/fq^", "maa/rz=1", "mb/ra=1",
	}
	for path, want := range map[string]string{
		"sx": "0,9z,a,ab,b", "sxy": "q", "sz": "", "ma/sx": "q",
		"rx": "10,2,z", "ry": "", "maa/rz": "1",
		"fx": "1", "fy": "0", "ma/fy": "1", "fxx": "0",
		"cx": "-2", "cy": "3", "cz": "0", "cq": "0", "ma/mb/cn": "1",
		"ma": "fy,mb,mbb,sx", "ma/mb": "cn,sn", "ma/mbb": "fq", "maa": "rz", "mb": "ra", "mq": "", "ma/mq": "",
	} {
		if got := at(t, path, alive...); got != want {
			t.Errorf("at %q: %q, want %q", path, got, want)
		}
		slices.Reverse(alive)
	}
}

func TestGreatSums(t *testing.T) {
	for change, want := range map[string]string{"cx>1000000000": "500000000000", "cx>-1000000000": "-500000000000"} {
		if got := at(t, "cx", slices.Repeat([]string{change}, api.MaxEvents)...); got != want {
			t.Errorf("%d times %q: %q", api.MaxEvents, change, got)
		}
	}
}
