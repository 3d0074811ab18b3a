package thicket_test

import (
	"strings"
	"testing"

	"thicket/api"
)

func TestP4Errors(t *testing.T) {
	x := cluster(t, 1, 10)
	for want, list := range map[api.Errno][]string{
		api.ErrPath: {"", "x+a", "s+a", "sabcde+a", "sx", "sx/sy+a", "mx/my/mz/sx+a", "Sx+a", "sx/+a", "/sx+a", "+", "!", " sx+a", "sx +a", "s1+a", "mx//sy+a", "sx*a", "sx\n+a", "mx/my/mz/mq!", strings.Repeat("s", 10000)},
		api.ErrKind: {"sx=a", "mx+a", "fx+a", "rx>1", "sx^", "sx_", "sx>1", "fx-a", "fx=a", "fx>1", "rx+a", "rx-a", "rx^", "rx_", "cx+1", "cx-1", "cx^", "cx_", "cx=1", "mx-a", "mx^", "mx_", "mx=a", "mx>1", "mx/my/sz=a"},
		api.ErrOp:   {"sx+", "sx-", "sx+A", "sx+abcdefghi", "sx-abcdefghi", "rx=", "rx=abcdefghi", "rx=a,b", "fx^1", "fx_a", "cx>", "cx>-", "cx>01", "cx>-0", "cx>-01", "cx>+1", "cx>1000000001", "cx>-1000000001", "cx>99999999999999999999", "cx>1 ", "mx!a", "sx!!", "fx! ", "sx+" + strings.Repeat("a", 10000)},
	} {
		for _, change := range list {
			refuses(t, x, 0, change, want)
		}
	}
	knows(t, x, 0, 0)
}

func TestP4OrderOfErrors(t *testing.T) {
	x := cluster(t, 1, 10)
	full := cluster(t, 2, 10)
	for k := range api.MaxEvents {
		do(t, full, k%2, "cx>0")
	}
	for change, want := range map[string]api.Errno{
		"sx/sy=A": api.ErrPath, "x>x": api.ErrPath, "fx+A": api.ErrKind, "mx>01": api.ErrKind, "rx+": api.ErrKind, "cx>01": api.ErrOp, "mx!a": api.ErrOp,
	} {
		refuses(t, x, 0, change, want)
		refuses(t, full, 0, change, want)
		refuses(t, full, 2, change, api.ErrReplica)
	}
	refuses(t, full, 0, "sx+a", api.ErrFull)
	refuses(t, full, 1, "cx!", api.ErrFull)
}

func TestP4Accepts(t *testing.T) {
	x := cluster(t, 1, 10)
	do(t, x, 0, "sx+a", "sx-a", "sx-never", "fx^", "fx_", "fy_", "rx=0", "cx>0", "cx>1000000000", "cx>-1000000000", "sx!", "fx!", "rx!", "cx!", "mx!", "mabcd/mabcd/mabcd!", "mabcd/mabcd/sabcd+abcdefgh", "mabcd/mabcd/cabcd>-1000000000")
	knows(t, x, 0, 18)
}

func TestP4BoundOfEvents(t *testing.T) {
	x := cluster(t, 3, 0)
	for k := range api.MaxEvents {
		refuses(t, x, 0, "sx+", api.ErrOp)
		do(t, x, k%3, []string{"sx+a", "sx-a", "mx!", "cx>1000000000"}[k%4])
	}
	for i := range 3 {
		refuses(t, x, i, "sx+z", api.ErrFull)
		knows(t, x, i, []int{167, 167, 166}[i])
	}
	tells(t, x, 0, "cx", "42000000000")
}

func TestP5Errors(t *testing.T) {
	x := cluster(t, 1, 10)
	do(t, x, 0, "sx+a", "mx/sy+a")
	for _, path := range []string{"", "x", "s", "sabcde", "sx/sy", "mx/my/mz/sx", "sx+", "sx+a", "mx!", "mx/", "/mx", "sX", "s1", "sx ", " sx", "mx//sy", "\xff", "sé", strings.Repeat("mx/", 10000) + "sy"} {
		asksInVain(t, x, 0, path, api.ErrPath)
	}
}

func TestP5Sets(t *testing.T) {
	x := cluster(t, 2, 10)
	do(t, x, 0, "sx+b", "sx+a", "sx+b", "sx+ab", "sx+0", "sx+zzzzzzzz", "sy+q", "mx/sx+r")
	tells(t, x, 0, "sx", "0,a,ab,b,zzzzzzzz", "sy", "q", "sz", "", "mx/sx", "r", "rx", "")
	do(t, x, 0, "sx-b", "sx-c", "sx-0")
	tells(t, x, 0, "sx", "a,ab,zzzzzzzz", "sy", "q")
	do(t, x, 0, "sx+b", "sx!")
	tells(t, x, 0, "sx", "", "sy", "q", "mx/sx", "r")
	do(t, x, 0, "sx+b")
	tells(t, x, 0, "sx", "b")
	tells(t, x, 1, "sx", "", "sy", "", "mx/sx", "")
}

func TestP5Flags(t *testing.T) {
	x := cluster(t, 2, 10)
	do(t, x, 0, "fx_")
	tells(t, x, 0, "fx", "0")
	do(t, x, 0, "fx^", "fx^", "mx/fx_", "fy_")
	tells(t, x, 0, "fx", "1", "fy", "0", "mx/fx", "0")
	do(t, x, 0, "fx_")
	tells(t, x, 0, "fx", "0")
	do(t, x, 0, "fx^", "fx!")
	tells(t, x, 0, "fx", "0")
	do(t, x, 0, "fx^")
	tells(t, x, 0, "fx", "1")
	tells(t, x, 1, "fx", "0")
}

func TestP5Registers(t *testing.T) {
	x := cluster(t, 2, 10)
	do(t, x, 0, "rx=1", "rx=2", "ry=3", "mx/rx=4")
	tells(t, x, 0, "rx", "2", "ry", "3", "mx/rx", "4", "rz", "")
	do(t, x, 0, "rx!", "ry=00")
	tells(t, x, 0, "rx", "", "ry", "00")
	tells(t, x, 1, "rx", "", "ry", "")
}

func TestP5Counters(t *testing.T) {
	x := cluster(t, 2, 10)
	do(t, x, 0, "cx>5", "cx>-7", "cx>5", "cy>1", "mx/cx>100")
	tells(t, x, 0, "cx", "3", "cy", "1", "cz", "0", "mx/cx", "100")
	do(t, x, 0, "cx>-4")
	tells(t, x, 0, "cx", "-1")
	do(t, x, 0, "cx>1", "cx!", "cx>0")
	tells(t, x, 0, "cx", "0", "cy", "1")
	for range 300 {
		do(t, x, 1, "cx>-1000000000")
	}
	tells(t, x, 1, "cx", "-300000000000")
}

func TestP5Maps(t *testing.T) {
	x := cluster(t, 2, 10)
	do(t, x, 0, "mdoc/stag+x", "mdoc/min/cn>1")
	tells(t, x, 0, "mdoc", "min,stag", "mdoc/min", "cn", "mdoc/min/cn", "1", "min", "", "mdo", "", "mdocs", "")
	tells(t, x, 1, "mdoc", "", "mdoc/min/cn", "0")
	do(t, x, 0, "mdoc/stag+y", "mdoc/fa^", "mdoc/rz=1", "mdoc/min/sn+a", "mdo/mmin/fq^", "mdoc/min/fno_", "mdoc/sno-a")
	tells(t, x, 0, "mdoc", "fa,min,rz,stag", "mdoc/min", "cn,sn", "mdo", "mmin", "mdo/mmin", "fq")
	do(t, x, 0, "mdoc/fa_", "mdoc/min/cn!", "mdoc/stag-x")
	tells(t, x, 0, "mdoc", "min,rz,stag", "mdoc/min", "sn")
	do(t, x, 0, "mdoc/min!")
	tells(t, x, 0, "mdoc", "rz,stag", "mdoc/min", "", "mdoc/min/sn", "")
	do(t, x, 0, "mdoc!")
	tells(t, x, 0, "mdoc", "", "mdoc/min", "", "mdoc/min/cn", "0", "mdoc/stag", "", "mdoc/rz", "", "mdo", "mmin")
	do(t, x, 0, "mdoc/min/cn>0")
	tells(t, x, 0, "mdoc", "min", "mdoc/min", "cn")
}

func TestP5Knows(t *testing.T) {
	x := cluster(t, 3, 10)
	do(t, x, 0, "sx+a", "sx+a", "sx-a", "sx-a", "mx!", "fx_")
	do(t, x, 2, "cx>0")
	knows(t, x, 0, 6)
	knows(t, x, 1, 0)
	knows(t, x, 2, 1)
}
