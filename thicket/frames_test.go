package thicket_test

import (
	"math/rand"
	"slices"
	"sync"
	"testing"

	"thicket/api"
	"thicket/thicket"
)

func TestP6SendAndDeliver(t *testing.T) {
	x := cluster(t, 2, 10)
	do(t, x, 0, "sx+a", "sx+b", "sx-a")
	if f := send(t, x, 0, 1); f != 1 {
		t.Errorf("the first frame: %d", f)
	}
	tells(t, x, 1, "sx", "")
	knows(t, x, 1, 0)
	if a := deliver(t, x, 1); a != 2 {
		t.Errorf("the acknowledgement: %d", a)
	}
	for i := range 2 {
		tells(t, x, i, "sx", "b")
		knows(t, x, i, 3)
	}
	if a := deliver(t, x, 2); a != 0 {
		t.Errorf("of an acknowledgement: %d", a)
	}
	if f := send(t, x, 1, 0); f != 3 {
		t.Errorf("the second frame that is sent: %d", f)
	}
	for k := range 5 {
		if a := deliver(t, x, 3); a != 4+k {
			t.Errorf("an acknowledgement each time: %d", a)
		}
	}
	knows(t, x, 0, 3)
}

func TestP6AFrameKnowsWhatWasKnownWhenItWasSent(t *testing.T) {
	x := cluster(t, 2, 10)
	nothing := send(t, x, 0, 1)
	do(t, x, 0, "sx+a", "fx^", "cx>1")
	three := send(t, x, 0, 1)
	do(t, x, 0, "sx-a", "fx_", "cx>1", "ry=1")
	seven := send(t, x, 0, 1)
	do(t, x, 0, "sx+z")
	deliver(t, x, nothing)
	knows(t, x, 1, 0)
	deliver(t, x, three)
	knows(t, x, 1, 3)
	tells(t, x, 1, "sx", "a", "fx", "1", "cx", "1", "ry", "")
	deliver(t, x, seven)
	for range 2 {
		knows(t, x, 1, 7)
		tells(t, x, 1, "sx", "", "fx", "0", "cx", "2", "ry", "1")
		deliver(t, x, three)
		deliver(t, x, nothing)
	}
}

func TestP6LaterFrameFirst(t *testing.T) {
	x := cluster(t, 2, 10)
	do(t, x, 0, "sx+a", "cx>1")
	early := send(t, x, 0, 1)
	do(t, x, 0, "sx-a", "sx+b", "cx!", "cx>5")
	late := send(t, x, 0, 1)
	deliver(t, x, late)
	tells(t, x, 1, "sx", "b", "cx", "5")
	deliver(t, x, early)
	tells(t, x, 1, "sx", "b", "cx", "5")
	knows(t, x, 1, 6)
}

// What was taken out here does not come back by a frame that still has it.
func TestP6OldFramesBringNothingBack(t *testing.T) {
	x := cluster(t, 2, 10)
	do(t, x, 0, "sx+a", "fx^", "rx=1", "cx>3", "mx/sy+b")
	f := send(t, x, 0, 1)
	deliver(t, x, f)
	do(t, x, 1, "sx-a", "fx_", "rx=2", "cx!", "mx!")
	for range 3 {
		deliver(t, x, f)
		tells(t, x, 1, "sx", "", "fx", "0", "rx", "2", "cx", "0", "mx", "", "mx/sy", "")
		knows(t, x, 1, 10)
	}
	exchange(t, x, 1, 0)
	tells(t, x, 0, "sx", "", "fx", "0", "rx", "2", "cx", "0", "mx", "", "mx/sy", "")
}

func TestP6AtOnce(t *testing.T) {
	x := cluster(t, 2, 10)
	both := func(pairs ...string) {
		t.Helper()
		exchange(t, x, 0, 1)
		tells(t, x, 0, pairs...)
		tells(t, x, 1, pairs...)
	}
	do(t, x, 0, "sx+b")
	both("sx", "b")
	do(t, x, 0, "sx-b")
	do(t, x, 1, "sx+b")
	both("sx", "b")
	do(t, x, 0, "ra=2")
	do(t, x, 1, "ra=1")
	both("ra", "1,2")
	do(t, x, 0, "ra=3")
	both("ra", "3")
	do(t, x, 0, "ra=4")
	do(t, x, 1, "ra=4")
	both("ra", "4")
	do(t, x, 1, "ra!")
	do(t, x, 0, "ra=5")
	both("ra", "5")
	do(t, x, 0, "fq^")
	both("fq", "1")
	do(t, x, 1, "fq_")
	do(t, x, 0, "fq^")
	both("fq", "1")
	do(t, x, 1, "fq_")
	do(t, x, 0, "fq_")
	both("fq", "0")
	do(t, x, 0, "cn>5")
	do(t, x, 1, "cn>-7")
	both("cn", "-2")
	do(t, x, 0, "cn>5", "cn!")
	do(t, x, 1, "cn>1", "cn>1")
	both("cn", "2")
	do(t, x, 0, "mx/sa+a", "mx/my/fb^")
	both("mx", "my,sa", "mx/my", "fb")
	do(t, x, 0, "mx!")
	do(t, x, 1, "mx/my/fb^", "mx/sa-a", "mx/rc=1")
	both("mx", "my,rc", "mx/my", "fb", "mx/sa", "", "mx/rc", "1")
	do(t, x, 0, "mx/my!")
	do(t, x, 1, "mx!")
	both("mx", "", "mx/my", "", "mx/rc", "")
}

func TestP6ByWayOfAThird(t *testing.T) {
	x := cluster(t, 3, 10)
	do(t, x, 0, "sx+a", "sx+b", "cx>1")
	early := send(t, x, 0, 2)
	deliver(t, x, send(t, x, 0, 1))
	do(t, x, 1, "sx-a", "cx>1")
	deliver(t, x, send(t, x, 1, 2))
	tells(t, x, 2, "sx", "b", "cx", "2")
	knows(t, x, 2, 5)
	deliver(t, x, early)
	deliver(t, x, send(t, x, 0, 2))
	tells(t, x, 2, "sx", "b", "cx", "2")
	knows(t, x, 2, 5)
	deliver(t, x, send(t, x, 2, 0))
	tells(t, x, 0, "sx", "b", "cx", "2")
	knows(t, x, 0, 5)
}

// An acknowledgement brings nothing of what its sender knows.
func TestP6AcknowledgementsBringNothing(t *testing.T) {
	x := cluster(t, 2, 10)
	do(t, x, 0, "sx+a")
	do(t, x, 1, "sx+b")
	a := deliver(t, x, send(t, x, 0, 1))
	for range 2 {
		if b := deliver(t, x, a); b != 0 {
			t.Errorf("an acknowledgement of one: %d", b)
		}
		tells(t, x, 0, "sx", "a")
		knows(t, x, 0, 1)
	}
	tells(t, x, 1, "sx", "a,b")
	if f := send(t, x, 0, 1); f != a+1 {
		t.Errorf("the frame behind it: %d", f)
	}
}

func TestP6SendErrors(t *testing.T) {
	x := cluster(t, 3, 10)
	for i := range 3 {
		sendsInVain(t, x, i, i, api.ErrArg)
		for _, j := range []int{-1, 3, 1 << 40} {
			sendsInVain(t, x, i, j, api.ErrReplica)
			sendsInVain(t, x, j, i, api.ErrReplica)
			sendsInVain(t, x, j, j, api.ErrReplica)
		}
	}
	sendsInVain(t, cluster(t, 1, 0), 0, 0, api.ErrArg)
	sendsInVain(t, cluster(t, 1, 0), 0, 1, api.ErrReplica)
	if f := send(t, x, 0, 1); f != 1 {
		t.Errorf("a refused frame was counted: %d", f)
	}
}

func TestP6NoSuchFrame(t *testing.T) {
	x := cluster(t, 2, 10)
	for sent := range 4 {
		for _, f := range slices.Concat(oddNumbers, []int{sent + 1, sent + 2}) {
			if 1 <= f && f <= sent {
				continue
			}
			deliversInVain(t, x, f, api.ErrFrame)
			if s, e := x.Frame(f); s != "" || e != api.ErrFrame {
				t.Errorf("Frame(%d): %q, %d", f, s, e)
			}
		}
		send(t, x, sent%2, 1-sent%2)
	}
}

func TestP6BytesStay(t *testing.T) {
	x := cluster(t, 2, 10)
	do(t, x, 0, "sx+a", "cx>-5")
	f := send(t, x, 0, 1)
	before := bytesOf(t, x, f)
	a := deliver(t, x, f)
	ack := bytesOf(t, x, a)
	do(t, x, 0, "sx-a", "cx!")
	do(t, x, 1, "sx+b")
	exchange(t, x, 0, 1)
	if bytesOf(t, x, f) != before || bytesOf(t, x, a) != ack {
		t.Error("a frame that was sent became another one")
	}
}

func TestP6BoundOfFrames(t *testing.T) {
	x := cluster(t, 3, 10)
	do(t, x, 0, "sx+a")
	for k := 1; k < api.MaxFrames; k += 2 {
		if f := send(t, x, 0, 1); f != k {
			t.Fatalf("frame %d: %d", k, f)
		}
		if a := deliver(t, x, k); a != k+1 {
			t.Fatalf("acknowledgement %d: %d", k+1, a)
		}
	}
	do(t, x, 0, "sx+b")
	do(t, x, 1, "cx>1")
	sendsInVain(t, x, 0, 2, api.ErrFull)
	sendsInVain(t, x, 0, 0, api.ErrArg)
	sendsInVain(t, x, 0, 3, api.ErrReplica)
	deliversInVain(t, x, 1, api.ErrFull)
	deliversInVain(t, x, api.MaxFrames-1, api.ErrFull)
	deliversInVain(t, x, api.MaxFrames+1, api.ErrFrame)
	deliversInVain(t, x, 0, api.ErrFrame)
	if a := deliver(t, x, api.MaxFrames); a != 0 {
		t.Errorf("an acknowledgement, with all frames sent: %d", a)
	}
	bytesOf(t, x, api.MaxFrames)
	knows(t, x, 1, 2)
}

// The last frame that may be is sent, and there is none left for its
// acknowledgement: so it does not come.
func TestP6NoFrameForTheAcknowledgement(t *testing.T) {
	x := cluster(t, 2, 10)
	do(t, x, 0, "sx+a")
	for range api.MaxFrames {
		send(t, x, 0, 1)
	}
	for _, f := range []int{1, 250, api.MaxFrames} {
		deliversInVain(t, x, f, api.ErrFull)
	}
	knows(t, x, 1, 0)
	tells(t, x, 1, "sx", "")
	do(t, x, 1, "sx+b")
	tells(t, x, 1, "sx", "b")
}

// Every event that may be, alive at its longest, goes in one frame.
func TestP6GreatFrames(t *testing.T) {
	x := cluster(t, 2, 10)
	for k := range api.MaxEvents {
		do(t, x, k%2, "mabcd/mabcd/cabcd>-1000000000")
	}
	exchange(t, x, 0, 1)
	for i := range 2 {
		knows(t, x, i, api.MaxEvents)
		tells(t, x, i, "mabcd/mabcd/cabcd", "-500000000000", "mabcd", "mabcd")
	}
	refuses(t, x, 0, "fx^", api.ErrFull)
}

// The bound is of the cluster's events, however many know them.
func TestP4BoundOfEventsThatManyKnow(t *testing.T) {
	x := cluster(t, 3, 10)
	for k := range 200 {
		do(t, x, k%3, "cx>1")
	}
	for range 2 {
		everyToEvery(t, x, 3)
	}
	for k := range api.MaxEvents - 200 {
		do(t, x, k%3, "cx>1")
	}
	for i := range 3 {
		refuses(t, x, i, "cx>1", api.ErrFull)
		knows(t, x, i, 300)
	}
}

func TestP2SameCallsSameBytes(t *testing.T) {
	sameEachTime(t, func() []string {
		source := rand.New(rand.NewSource(5))
		x, m := cluster(t, 3, 10), newModel(10)
		var told []string
		for _, c := range randomChanges(source, 100) {
			do(t, x, c.who, c.text)
			m.do(c)
			m.step(t, x, source)
			told = append(told, bytesOf(t, x, len(m.sent)))
		}
		return told
	})
}

// Each frame has a number of its own, whoever sends it at the same time; and
// what is delivered while others change is lost nowhere.
func TestP2FramesOfManyGoroutines(t *testing.T) {
	x := cluster(t, 4, 10)
	var all sync.WaitGroup
	var lock sync.Mutex
	var numbers []int
	for g := range 8 {
		all.Go(func() {
			for range 20 {
				do(t, x, g%4, "cx>1")
				f := send(t, x, g%4, (g+1)%4)
				a := deliver(t, x, f)
				deliver(t, x, a)
				lock.Lock()
				numbers = append(numbers, f, a)
				lock.Unlock()
			}
		})
	}
	all.Wait()
	slices.Sort(numbers)
	for k, n := range numbers {
		if n != k+1 {
			t.Fatalf("the numbers %v", numbers)
		}
	}
	for range 2 {
		everyToEvery(t, x, 4)
	}
	for i := range 4 {
		knows(t, x, i, 160)
		tells(t, x, i, "cx", "160")
	}
}

// drawn lets replicas change and send at random; some of it is delivered.
func drawn(t *testing.T, x *thicket.Cluster, replicas int, source *rand.Rand) {
	t.Helper()
	frames := 0
	for _, c := range randomChanges(source, 80) {
		do(t, x, source.Intn(replicas), c.text)
		if replicas == 1 {
			continue
		}
		i := source.Intn(replicas)
		frames = max(frames, send(t, x, i, (i+1+source.Intn(replicas-1))%replicas))
		frames = max(frames, deliver(t, x, 1+source.Intn(frames)))
	}
}

func TestP10AllTellTheSame(t *testing.T) {
	for seed := range 60 {
		source := rand.New(rand.NewSource(int64(seed)))
		replicas := 1 + seed%api.MaxReplicas
		x := cluster(t, replicas, []int{0, 1, 3, 50}[source.Intn(4)])
		drawn(t, x, replicas, source)
		for range 2 {
			everyToEvery(t, x, replicas)
		}
		for i := range replicas {
			knows(t, x, i, 80)
			for _, path := range modelPaths {
				first, _ := x.Ask(0, path)
				tells(t, x, i, path, first)
			}
		}
		if t.Failed() {
			t.Fatalf("seed %d", seed)
		}
	}
}

// Two that came to know the same by other ways tell the same.
func TestP10ByOtherWays(t *testing.T) {
	x := cluster(t, 4, 10)
	do(t, x, 0, "rx=a", "sx+a", "mx/sx+a")
	do(t, x, 1, "rx=b", "sx+b", "mx/sx+b", "mx!")
	deliver(t, x, send(t, x, 0, 2))
	deliver(t, x, send(t, x, 1, 2))
	deliver(t, x, send(t, x, 1, 3))
	deliver(t, x, send(t, x, 0, 3))
	for i := 2; i < 4; i++ {
		knows(t, x, i, 7)
		tells(t, x, i, "rx", "a,b", "sx", "a,b", "mx", "sx", "mx/sx", "a")
	}
}
