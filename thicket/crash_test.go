package thicket_test

import (
	"math"
	"math/rand"
	"slices"
	"strconv"
	"sync"
	"testing"

	"thicket/api"
	"thicket/thicket"
)

// enough is more than any write has.
const enough = 200 + 80*api.MaxEvents

func TestP9Crash(t *testing.T) {
	x := cluster(t, 3, 10)
	crash(t, x, 0)
	knows(t, x, 0, 0)
	do(t, x, 0, "sx+a", "sx+b", "sx-a", "mx/my/cz>-5", "fx^", "rx=1", "ma!")
	do(t, x, 1, "sx+z", "rx=2")
	deliver(t, x, send(t, x, 1, 0))
	waits(t, x, 0, 8)
	for range 2 {
		crash(t, x, 0)
		knows(t, x, 0, 9)
		waits(t, x, 0, 0)
		tells(t, x, 0, "sx", "b,z", "mx", "my", "mx/my/cz", "-5", "fx", "1", "rx", "1,2")
	}
	do(t, x, 0, "sx-z", "rx=3")
	waits(t, x, 0, 2)
	deliver(t, x, send(t, x, 0, 2))
	knows(t, x, 2, 11)
	tells(t, x, 2, "sx", "b", "rx", "3", "mx/my/cz", "-5")
	exchange(t, x, 0, 1)
	tells(t, x, 1, "sx", "b", "rx", "3", "fx", "1")
}

// acknowledged is a cluster with many effects at replica 0, that replica 1 has
// acknowledged.
func acknowledged(t *testing.T) *thicket.Cluster {
	t.Helper()
	x := cluster(t, 2, 10)
	for range 30 {
		do(t, x, 0, longest)
	}
	deliver(t, x, deliver(t, x, send(t, x, 0, 1)))
	return x
}

// What was acknowledged ahead of a crash is lost, what comes behind it is not.
func TestP9CrashLosesAcknowledgements(t *testing.T) {
	x := acknowledged(t)
	crash(t, x, 0)
	do(t, x, 0, "sx+a")
	tick(t, x, 0)
	waits(t, x, 0, 1)
	f := send(t, x, 0, 1)
	isShort(t, x, f, 200+80*31)
	a := deliver(t, x, f)
	knows(t, x, 1, 31)
	deliver(t, x, a)
	isShort(t, x, send(t, x, 0, 1), 80)
	tick(t, x, 0)
	waits(t, x, 0, 0)
	do(t, x, 0, "sx+b")
	isShort(t, x, send(t, x, 0, 1), 160)
}

// An acknowledgement of a frame from ahead of the crash is of no piece that was
// made behind it.
func TestP9OldAcknowledgements(t *testing.T) {
	for _, down := range []bool{false, true} {
		x := cluster(t, 2, 10)
		do(t, x, 0, "sx+a", "sx+b")
		early := deliver(t, x, send(t, x, 0, 1))
		do(t, x, 0, "sx+c")
		lost := send(t, x, 0, 1)
		if down {
			torn(t, x, 0, 0, "sx+q")
			deliversInVain(t, x, early, api.ErrDown)
			wake(t, x, 0)
		} else {
			crash(t, x, 0)
		}
		do(t, x, 0, "sx+d", "sx+e")
		deliver(t, x, early)
		tick(t, x, 0)
		waits(t, x, 0, 2)
		deliver(t, x, send(t, x, 0, 1))
		tells(t, x, 1, "sx", "a,b,c,d,e")
		deliver(t, x, deliver(t, x, lost))
		tick(t, x, 0)
		waits(t, x, 0, 2)
		knows(t, x, 1, 5)
	}
}

// That the other one crashes takes nothing from what it has acknowledged.
func TestP9ANeighbourCrashes(t *testing.T) {
	x := acknowledged(t)
	crash(t, x, 1)
	torn(t, x, 1, 0, "sx+q")
	wake(t, x, 1)
	isShort(t, x, send(t, x, 0, 1), 80)
	do(t, x, 0, "sx+a")
	f := send(t, x, 0, 1)
	isShort(t, x, f, 160)
	deliver(t, x, f)
	knows(t, x, 1, 31)
	tells(t, x, 1, "sx", "a", "mabcd/mabcd/cabcd", "-30000000000")
}

func TestP9Tear(t *testing.T) {
	for _, bytes := range []int{0, 1, enough, math.MaxInt} {
		x := cluster(t, 2, 10)
		do(t, x, 0, "sx+a")
		torn(t, x, 0, bytes, "sx+c")
		isDown(t, x, 0)
		sendsInVain(t, x, 1, 0, api.ErrDown)
		do(t, x, 1, "sx+b")
		wake(t, x, 0)
		waits(t, x, 0, 0)
		if bytes < enough {
			knows(t, x, 0, 1)
			tells(t, x, 0, "sx", "a")
		} else {
			knows(t, x, 0, 2)
			tells(t, x, 0, "sx", "a,c")
		}
		do(t, x, 0, "sx+c", "sx+d")
		tells(t, x, 0, "sx", "a,c,d")
		exchange(t, x, 0, 1)
		tells(t, x, 1, "sx", "a,b,c,d")
	}
}

// lengthOfWrite tears a change after more and more bytes, until it is there behind
// Wake: as many bytes has its write.
func lengthOfWrite(t *testing.T, x *thicket.Cluster, i int, change string, paths ...string) int {
	t.Helper()
	before, _ := x.Knows(i)
	for bytes := 0; bytes < 1000 && !t.Failed(); bytes++ {
		var told []string
		for _, path := range paths {
			s, _ := x.Ask(i, path)
			told = append(told, path, s)
		}
		torn(t, x, i, bytes, change)
		wake(t, x, i)
		if n, _ := x.Knows(i); n == before+1 {
			return bytes
		}
		knows(t, x, i, before)
		tells(t, x, i, told...)
	}
	t.Fatalf("%q is never there", change)
	return 0
}

func TestP9EveryTear(t *testing.T) {
	x := cluster(t, 2, 10)
	paths := []string{"sx", "fx", "rx", "cx", "ma"}
	alive := 0
	for _, c := range []struct {
		change      string
		alive       int
		left, right string
	}{
		{"sx+a", 1, "sx", "a"}, {"fx^", 1, "fx", "1"}, {"rx=abcdefgh", 1, "rx", "abcdefgh"}, {"sx-q", 0, "sx", "a"}, {"rx=2", 0, "rx", "2"},
		{"cx>-1000000000", 1, "cx", "-1000000000"}, {"cx>7", 1, "cx", "-999999993"}, {"ma/mb/cx>1", 1, "ma", "mb"},
		{"cx!", -2, "cx", "0"}, {"ma!", -1, "ma", ""}, {"fx_", -1, "fx", "0"}, {"rx!", -1, "rx", ""}, {"sx-a", -1, "sx", ""},
	} {
		n := lengthOfWrite(t, x, 0, c.change, paths...)
		alive += c.alive
		if n < 1 || n > 200+80*alive {
			t.Errorf("%q: a write of %d bytes, with %d effects alive", c.change, n, alive)
		}
		tells(t, x, 0, c.left, c.right)
	}
}

// The last write ahead may be of any length, as the one that it takes the place of.
func TestP9EveryTearBehindOthers(t *testing.T) {
	lists := [][]string{{}, {"sx+a"}, {"sx+a", "sx-a"}, {"sx+b", "sx+b"}, {longest, longest, "mabcd!"}, {"sx+a", "sx+b", "sx+c", "sx!"}}
	for _, list := range lists {
		for _, change := range []string{"sx+a", "sx-a", longest, "sx!"} {
			x := cluster(t, 1, 10)
			do(t, x, 0, list...)
			lengthOfWrite(t, x, 0, change, "sx", "mabcd")
			knows(t, x, 0, len(list)+1)
		}
	}
}

// Every event that may be, alive at its longest, is written.
func TestP9GreatWrites(t *testing.T) {
	x := cluster(t, 2, 10)
	for k := range api.MaxEvents - 1 {
		do(t, x, k%2, longest)
	}
	torn(t, x, 0, enough, "fx^")
	wake(t, x, 0)
	f := send(t, x, 0, 1)
	tear(t, x, 1, enough)
	deliversInVain(t, x, f, api.ErrCrashed)
	wake(t, x, 1)
	knows(t, x, 1, api.MaxEvents)
	tells(t, x, 1, "fx", "1", "mabcd/mabcd/cabcd", "-499000000000")
	crash(t, x, 1)
	knows(t, x, 1, api.MaxEvents)
	tells(t, x, 1, "fx", "1", "mabcd/mabcd/cabcd", "-499000000000")
}

// What is covered needs no room on the disk.
func TestP9WritesOfWhatIsAlive(t *testing.T) {
	x := cluster(t, 3, 10)
	for range 60 {
		do(t, x, 0, "sx+abcdefgh", "fx^", "rx=abcdefgh", "mx!")
		do(t, x, 1, "sx+abcdefgh", "fx^", "rx=abcdefgh", "mx!")
	}
	do(t, x, 0, "sx!", "fx!", "rx!")
	do(t, x, 1, "sx!", "fx!", "rx!")
	tear(t, x, 0, 200)
	deliversInVain(t, x, send(t, x, 1, 0), api.ErrCrashed)
	wake(t, x, 0)
	knows(t, x, 0, 486)
	torn(t, x, 0, 200, "fx_")
	wake(t, x, 0)
	knows(t, x, 0, 487)
}

func TestP9TornFrames(t *testing.T) {
	length := 0
	for bytes := 0; length == 0 && bytes < 1000; bytes++ {
		x := cluster(t, 3, 10)
		do(t, x, 0, "sx+a", "sx+b", "cx>1", "sx-a")
		do(t, x, 1, "sx+a", "cx>5")
		f := send(t, x, 0, 1)
		tear(t, x, 1, bytes)
		deliversInVain(t, x, f, api.ErrCrashed)
		deliversInVain(t, x, f, api.ErrDown)
		spoils(t, x, f, 0, api.ErrDown)
		spoils(t, x, f, -1, api.ErrArg)
		spoils(t, x, f+1, -1, api.ErrFrame)
		isDown(t, x, 1)
		wake(t, x, 1)
		waits(t, x, 1, 0)
		switch n, _ := x.Knows(1); n {
		case 2:
			tells(t, x, 1, "sx", "a", "cx", "5")
		case 6:
			tells(t, x, 1, "sx", "a,b", "cx", "6")
			length = bytes
		default:
			t.Fatalf("%d events behind %d bytes", n, bytes)
		}
		if a := deliver(t, x, f); a != f+1 {
			t.Errorf("an acknowledgement was sent by what was torn: %d", a)
		}
		knows(t, x, 1, 6)
		tells(t, x, 1, "sx", "a,b", "cx", "6")
	}
	if length < 1 || length > 200+80*4 {
		t.Errorf("a write of %d bytes", length)
	}
}

// What does not write leaves the tear for what does.
func TestP9NothingElseWrites(t *testing.T) {
	for _, bytes := range []int{0, enough} {
		x := cluster(t, 2, 10)
		do(t, x, 0, "sx+a")
		do(t, x, 1, "sx+b")
		exchange(t, x, 0, 1)
		old := send(t, x, 0, 1)
		tear(t, x, 1, bytes)
		for _, change := range []string{"", "sx", "mx+a", "sx+"} {
			if e := x.Do(1, change); e == api.OK || e == api.ErrCrashed {
				t.Errorf("Do(1, %q): %d", change, e)
			}
		}
		deliver(t, x, deliver(t, x, old))
		deliver(t, x, deliver(t, x, send(t, x, 1, 0)))
		spoils(t, x, old, 3, api.ErrFrame)
		bytesOf(t, x, old)
		tick(t, x, 1)
		crash(t, x, 1)
		if e := x.Wake(1); e != api.ErrUp {
			t.Errorf("Wake of one that is up: %d", e)
		}
		waits(t, x, 1, 0)
		knows(t, x, 1, 2)
		tells(t, x, 1, "sx", "a,b")
		do(t, x, 0, "sx+c")
		refuses(t, x, 1, "sx+d", api.ErrCrashed)
		wake(t, x, 1)
		knows(t, x, 1, 2+min(bytes, 1))
		do(t, x, 1, "sx+e")
		deliver(t, x, send(t, x, 0, 1))
	}
}

func TestP9AnotherTearTakesItsPlace(t *testing.T) {
	x := cluster(t, 2, 10)
	tear(t, x, 0, enough)
	torn(t, x, 0, 0, "sx+a")
	wake(t, x, 0)
	knows(t, x, 0, 0)
	tear(t, x, 0, 0)
	if e := x.Tear(0, -1); e != api.ErrArg {
		t.Errorf("Tear(0, -1): %d", e)
	}
	crash(t, x, 0)
	torn(t, x, 0, enough, "sx+a")
	wake(t, x, 0)
	knows(t, x, 0, 1)
	do(t, x, 0, "sx+b")
	tear(t, x, 0, 0)
	if e := x.Tear(0, -1); e != api.ErrArg {
		t.Errorf("Tear(0, -1): %d", e)
	}
	refuses(t, x, 0, "sx+c", api.ErrCrashed)
	wake(t, x, 0)
	tells(t, x, 0, "sx", "a,b")
	do(t, x, 0, "sx+c")
}

func TestP9Errors(t *testing.T) {
	x := cluster(t, 2, 10)
	for _, i := range slices.Concat(oddNumbers, []int{3}) {
		for _, bytes := range oddNumbers {
			is := i == 0 || i == 1
			tearing, rest := api.ErrReplica, api.ErrReplica
			if is {
				tearing, rest = api.OK, api.ErrUp
			}
			if is && bytes < 0 {
				tearing = api.ErrArg
			}
			if e := x.Tear(i, bytes); e != tearing {
				t.Errorf("Tear(%d, %d): %d, want %d", i, bytes, e, tearing)
			}
			if e := x.Wake(i); e != rest {
				t.Errorf("Wake(%d): %d, want %d", i, e, rest)
			}
			if e := x.Crash(i); !is && e != api.ErrReplica || is && e != api.OK {
				t.Errorf("Crash(%d): %d", i, e)
			}
		}
	}
}

func TestP3WhoIsDown(t *testing.T) {
	x := cluster(t, 4, 10)
	do(t, x, 2, "sx+a")
	f := send(t, x, 2, 0)
	a := deliver(t, x, f)
	torn(t, x, 0, 0, "sx+b")
	torn(t, x, 2, enough, "sx+b")
	isDown(t, x, 0)
	isDown(t, x, 2)
	for _, i := range []int{0, 2} {
		sendsInVain(t, x, i, 1, api.ErrDown)
		sendsInVain(t, x, 1, i, api.ErrDown)
		sendsInVain(t, x, i, 4, api.ErrDown)
		sendsInVain(t, x, 4, i, api.ErrReplica)
		sendsInVain(t, x, 0, 2, api.ErrDown)
	}
	deliversInVain(t, x, f, api.ErrDown)
	deliversInVain(t, x, a, api.ErrDown)
	deliversInVain(t, x, a+1, api.ErrFrame)
	spoils(t, x, a, 0, api.ErrDown)
	bytesOf(t, x, f)
	if g := send(t, x, 1, 3); g != a+1 {
		t.Errorf("a refused frame was counted: %d", g)
	}
	do(t, x, 1, "sx+c")
	wake(t, x, 2)
	isDown(t, x, 0)
	tells(t, x, 2, "sx", "a,b")
	wake(t, x, 0)
	tells(t, x, 0, "sx", "a")
	for i := range 4 {
		if e := x.Wake(i); e != api.ErrUp {
			t.Errorf("Wake(%d): %d", i, e)
		}
	}
}

// ErrDown comes ahead of ErrFull; and with ErrFull nothing is torn.
func TestP9Full(t *testing.T) {
	x := cluster(t, 2, 10)
	do(t, x, 0, "sx+a")
	for range api.MaxFrames {
		send(t, x, 0, 1)
	}
	tear(t, x, 1, 0)
	deliversInVain(t, x, 1, api.ErrFull)
	knows(t, x, 1, 0)
	for range api.MaxEvents - 2 {
		do(t, x, 0, "fx_")
	}
	refuses(t, x, 1, "sx+b", api.ErrCrashed)
	deliversInVain(t, x, 1, api.ErrDown)
	sendsInVain(t, x, 0, 1, api.ErrDown)
	do(t, x, 0, "fx_")
	refuses(t, x, 0, "fx_", api.ErrFull)
	refuses(t, x, 1, "fx_", api.ErrDown)
	tear(t, x, 0, 0)
	refuses(t, x, 0, "fx_", api.ErrFull)
	knows(t, x, 0, api.MaxEvents)
	wake(t, x, 1)
	refuses(t, x, 1, "fx_", api.ErrFull)
	deliversInVain(t, x, 1, api.ErrFull)
}

func TestP4TornEventsThatCount(t *testing.T) {
	x := cluster(t, 2, 10)
	for range api.MaxEvents - 2 {
		do(t, x, 0, "cx>1")
	}
	for range 5 {
		torn(t, x, 1, 0, "cx>1")
		wake(t, x, 1)
	}
	torn(t, x, 1, enough, "cx>1")
	wake(t, x, 1)
	torn(t, x, 0, 0, "cx>1")
	wake(t, x, 0)
	torn(t, x, 0, enough, "cx>1")
	wake(t, x, 0)
	refuses(t, x, 0, "cx>1", api.ErrFull)
	refuses(t, x, 1, "cx>1", api.ErrFull)
	exchange(t, x, 0, 1)
	tells(t, x, 0, "cx", "500")
	knows(t, x, 1, 500)
}

// What was torn is no event of the cluster's until Wake: so it may be that more
// are there then than the bound.
func TestP4TornEventsCountFromWakeOn(t *testing.T) {
	x := cluster(t, api.MaxReplicas, 10)
	for range api.MaxEvents - 1 {
		do(t, x, 0, "cx>1")
	}
	for i := range api.MaxReplicas {
		torn(t, x, i, enough, "cx>1")
	}
	for i := range api.MaxReplicas {
		wake(t, x, i)
		refuses(t, x, i, "cx>1", api.ErrFull)
	}
	for range 2 {
		everyToEvery(t, x, api.MaxReplicas)
	}
	for i := range api.MaxReplicas {
		crash(t, x, i)
		knows(t, x, i, 505)
		tells(t, x, i, "cx", "505")
	}
}

// An event that is gone is gone for good, and the one in its place is another one.
func TestP9GoneForGood(t *testing.T) {
	x := cluster(t, 3, 10)
	do(t, x, 0, "sx+a")
	deliver(t, x, deliver(t, x, send(t, x, 0, 1)))
	torn(t, x, 0, 5, "sx-a")
	wake(t, x, 0)
	tells(t, x, 0, "sx", "a")
	do(t, x, 0, "sx+b")
	everyToEvery(t, x, 3)
	for i := range 3 {
		knows(t, x, i, 2)
		tells(t, x, i, "sx", "a,b")
	}
}

// shaken is something that happens to a replica at random: a crash, a tear, or
// that it wakes.
func (m *model) shaken(t *testing.T, x *thicket.Cluster, source *rand.Rand) {
	t.Helper()
	i := source.Intn(3)
	switch {
	case m.torn[i] != nil:
		m.wake(t, x, i)
	case source.Intn(3) == 0:
		crash(t, x, i)
		m.crash(i)
	case source.Intn(2) == 0:
		m.tear(t, x, i, []int{0, enough, source.Intn(20), source.Intn(200), source.Intn(400)}[source.Intn(5)])
	}
}

// settle uses up the tears that are left, and wakes all.
func (m *model) settle(t *testing.T, x *thicket.Cluster) {
	t.Helper()
	for i := range 3 {
		if m.tears[i] != nil && m.torn[i] == nil {
			refuses(t, x, i, "fa_", m.do(madeChange{i, "fa_"}))
		}
		if m.torn[i] != nil {
			m.wake(t, x, i)
		}
	}
}

// Replicas crash among all else, and their writes are torn: each time all is as
// the section 'Words' has it, of the events that are there.
func TestP9AsTheWordsSay(t *testing.T) {
	for seed := range 80 {
		source := rand.New(rand.NewSource(int64(seed)))
		room := []int{0, 1, 5, 50}[seed%4]
		x, m := cluster(t, 3, room), newModel(room)
		m.random(t, x, source, func() {
			if source.Intn(2) == 0 {
				m.shaken(t, x, source)
			}
		})
		m.settle(t, x)
		m.meet(t, x)
		if t.Failed() {
			t.Fatalf("seed %d", seed)
		}
	}
}

func TestP2SameTearsSameAnswers(t *testing.T) {
	sameEachTime(t, func() []string {
		x := cluster(t, 3, 5)
		var told []string
		for k, c := range randomChanges(rand.New(rand.NewSource(9)), 200) {
			if k%3 == 0 {
				tear(t, x, c.who, k)
			}
			told = append(told, strconv.Itoa(int(x.Do(c.who, c.text))))
			x.Wake(c.who)
			n, _ := x.Knows(c.who)
			f, _ := x.Send(c.who, (c.who+1)%3)
			x.Deliver(f)
			x.Wake((c.who + 1) % 3)
			told = append(told, strconv.Itoa(n), bytesOf(t, x, f))
		}
		return told
	})
}

// A count is there once, if it was accepted, or torn with all its bytes.
func TestP9ManyGoroutines(t *testing.T) {
	x := cluster(t, 4, 10)
	var all sync.WaitGroup
	for i := range 4 {
		all.Go(func() {
			for k := range 20 {
				torn(t, x, i, (k%2)*enough, "cx>1")
				wake(t, x, i)
				do(t, x, i, "cx>1")
				crash(t, x, i)
				if f, e := x.Send(i, (i+1)%4); e == api.OK {
					x.Waiting(i)
					x.Spoil(f, 0)
				}
			}
		})
	}
	all.Wait()
	for range 2 {
		everyToEvery(t, x, 4)
	}
	for i := range 4 {
		knows(t, x, i, 120)
		tells(t, x, i, "cx", "120")
	}
}
