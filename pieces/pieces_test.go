package pieces

import (
	"reflect"
	"slices"
	"testing"

	"thicket/dots"
)

func at(nth int) dots.Dot { return dots.Dot{Who: 0, Nth: nth} }

// add keeps pieces that were learnt from 0: each one knows one dot, and so its
// mark is that dot's number.
func add(k *Kept[int], marks ...int) {
	for _, mark := range marks {
		k.Add(dots.One(at(mark), mark), 0, mark)
	}
}

func waits(t *testing.T, k *Kept[int], want int) {
	t.Helper()
	if n := k.Waiting(); n != want {
		t.Errorf("%d pieces, want %d", n, want)
	}
}

// news: the dots of which a neighbour is told, if it is.
func news(t *testing.T, k *Kept[int], neighbour int, want ...int) {
	t.Helper()
	s, ok := k.News(neighbour)
	var got []int
	for d := range s.All() {
		got = append(got, d.Nth)
	}
	if !ok || !slices.Equal(got, want) {
		t.Errorf("news for %d: %v, %v, want %v", neighbour, got, ok, want)
	}
}

func noNews(t *testing.T, k *Kept[int], neighbour int) {
	t.Helper()
	if s, ok := k.News(neighbour); ok || !reflect.DeepEqual(s, dots.Store[int]{}) {
		t.Errorf("news for %d: %v, %v", neighbour, s, ok)
	}
}

func TestRoom(t *testing.T) {
	for room := range 6 {
		k := New[int](room, 1)
		waits(t, k, 0)
		for mark := 1; mark <= 10; mark++ {
			add(k, mark)
			waits(t, k, min(mark, room))
		}
	}
}

func TestTick(t *testing.T) {
	k := New[int](10, 1, 2)
	add(k, 1, 2, 3, 4)
	k.Tick()
	waits(t, k, 4)
	k.Acknowledge(1, 3)
	k.Tick()
	waits(t, k, 4)
	k.Acknowledge(2, 2)
	waits(t, k, 4)
	k.Tick()
	waits(t, k, 2)
	k.Acknowledge(2, 1)
	k.Acknowledge(1, 4)
	k.Tick()
	waits(t, k, 2)
	k.Acknowledge(2, 4)
	k.Tick()
	waits(t, k, 0)
	add(k, 5)
	k.Tick()
	waits(t, k, 1)
}

func TestTickAlone(t *testing.T) {
	k := New[int](10)
	add(k, 1, 2, 3)
	waits(t, k, 3)
	k.Tick()
	waits(t, k, 0)
}

func TestNews(t *testing.T) {
	k := New[int](10, 1, 2)
	news(t, k, 1)
	add(k, 1, 2, 3)
	news(t, k, 1, 1, 2, 3)
	k.Acknowledge(1, 2)
	news(t, k, 1, 3)
	news(t, k, 2, 1, 2, 3)
	k.Acknowledge(1, 3)
	news(t, k, 1)
	k.Acknowledge(1, 1)
	news(t, k, 1)
	k.Acknowledge(2, 1)
	k.Tick()
	news(t, k, 1)
	news(t, k, 2, 2, 3)
	k.Add(dots.Gone[int](at(2), at(4)), 0, 4)
	news(t, k, 1)
	news(t, k, 2, 3)
	if s, _ := k.News(2); s.Known() != 3 {
		t.Errorf("news for 2: %v", s)
	}
}

// A neighbour has what it brought; the others may not.
func TestNewsOfWhoBroughtIt(t *testing.T) {
	k := New[int](10, 1, 2)
	add(k, 1)
	k.Add(dots.One(at(2), 2), 1, 2)
	k.Add(dots.One(at(3), 3), 2, 3)
	news(t, k, 1, 1, 3)
	news(t, k, 2, 1, 2)
}

func TestNewsBehindAGap(t *testing.T) {
	k := New[int](2, 1, 2, 3)
	add(k, 1, 2)
	k.Acknowledge(1, 1)
	k.Acknowledge(2, 2)
	add(k, 3)
	news(t, k, 1, 2, 3)
	news(t, k, 2, 3)
	noNews(t, k, 3)
	add(k, 4)
	noNews(t, k, 1)
	news(t, k, 2, 3, 4)
	k.Acknowledge(3, 4)
	news(t, k, 3)
	k.Acknowledge(1, 2)
	news(t, k, 1, 3, 4)
}

func TestNewsWithoutRoom(t *testing.T) {
	k := New[int](0, 1)
	add(k, 1)
	noNews(t, k, 1)
	k.Acknowledge(1, 1)
	news(t, k, 1)
	add(k, 2)
	noNews(t, k, 1)
}

// What was known ahead of a crash can be sent as a whole alone, and only what is
// acknowledged behind it counts.
func TestLose(t *testing.T) {
	k := New[int](10, 1, 2)
	add(k, 1, 2, 3)
	k.Acknowledge(1, 3)
	k.Acknowledge(2, 3)
	k.Lose(3)
	waits(t, k, 0)
	noNews(t, k, 1)
	noNews(t, k, 2)
	add(k, 4, 5)
	k.Tick()
	waits(t, k, 2)
	noNews(t, k, 1)
	k.Acknowledge(1, 2)
	noNews(t, k, 1)
	k.Acknowledge(1, 3)
	news(t, k, 1, 4, 5)
	k.Acknowledge(1, 5)
	news(t, k, 1)
	k.Acknowledge(2, 4)
	news(t, k, 2, 5)
	k.Tick()
	waits(t, k, 1)
}

func TestLoseNothing(t *testing.T) {
	k := New[int](10, 1)
	k.Lose(0)
	news(t, k, 1)
	add(k, 1)
	news(t, k, 1, 1)
}

func TestLoseAlone(t *testing.T) {
	k := New[int](10)
	add(k, 1)
	k.Lose(1)
	waits(t, k, 0)
	add(k, 2)
	waits(t, k, 1)
	k.Tick()
	waits(t, k, 0)
}
