package dots

import (
	"maps"
	"math/rand"
	"reflect"
	"slices"
	"testing"
)

func TestContextInAnyOrder(t *testing.T) {
	source := rand.New(rand.NewSource(1))
	for range 200 {
		var all []Dot
		for who := range 3 {
			for nth := 1; nth <= source.Intn(6); nth++ {
				all = append(all, Dot{who, nth})
			}
		}
		c := newContext()
		for k, at := range source.Perm(len(all)) {
			if c.has(all[at]) {
				t.Fatalf("%v has %v ahead of it", c, all[at])
			}
			c.add(all[at])
			c.add(all[at])
			if !c.has(all[at]) || c.size() != k+1 {
				t.Fatalf("%v behind %v: %d", c, all[at], c.size())
			}
		}
		if len(c.loose) != 0 {
			t.Fatalf("no gap, but loose dots: %v", c)
		}
	}
}

func TestContextWithGaps(t *testing.T) {
	c := newContext()
	c.add(Dot{1, 3})
	if c.has(Dot{1, 1}) || c.has(Dot{1, 2}) || c.has(Dot{0, 3}) || !c.has(Dot{1, 3}) || c.next(1) != (Dot{1, 1}) {
		t.Errorf("one dot behind a gap: %v", c)
	}
	c.add(Dot{1, 1})
	if c.next(1) != (Dot{1, 2}) || c.size() != 2 {
		t.Errorf("a smaller gap: %v", c)
	}
	c.add(Dot{1, 2})
	if c.next(1) != (Dot{1, 4}) || c.size() != 3 || len(c.loose) != 0 {
		t.Errorf("no gap: %v", c)
	}
}

func TestRuns(t *testing.T) {
	s := Gone[int](Dot{2, 1}, Dot{0, 3}, Dot{0, 1}, Dot{0, 2}, Dot{1, 7}, Dot{0, 5}, Dot{1, 6}, Dot{3, 2})
	want := []Run{{Dot{0, 1}, 3}, {Dot{0, 5}, 1}, {Dot{1, 6}, 2}, {Dot{2, 1}, 1}, {Dot{3, 2}, 1}}
	if got := s.Runs(); !slices.Equal(got, want) {
		t.Errorf("runs: %v", got)
	}
	if got := (Store[int]{}).Runs(); len(got) != 0 {
		t.Errorf("runs of nothing: %v", got)
	}
	source := rand.New(rand.NewSource(3))
	for range 200 {
		s := some(source)
		var known []Dot
		for _, run := range s.Runs() {
			known = append(known, run.Dots()...)
		}
		if again := Of(maps.Collect(s.All()), known...); !reflect.DeepEqual(again, s) {
			t.Fatalf("%v from its runs and items: %v", s, again)
		}
	}
}

func TestOf(t *testing.T) {
	items := map[Dot]string{{0, 1}: "a", {1, 2}: "b"}
	s := Of(items, Dot{0, 1}, Dot{0, 2})
	if s.Known() != 3 || s.Items() != 2 || !holds(s, Dot{0, 1}) || !holds(s, Dot{1, 2}) || holds(s, Dot{0, 2}) {
		t.Errorf("of two items and a dot: %v", s)
	}
	delete(items, Dot{0, 1})
	if !holds(s, Dot{0, 1}) {
		t.Errorf("it shares what it was made of: %v", s)
	}
}

func TestZeroStore(t *testing.T) {
	var zero Store[int]
	if zero.Known() != 0 || zero.Next(4) != (Dot{4, 1}) || len(maps.Collect(zero.All())) != 0 {
		t.Errorf("the zero store: %v", zero)
	}
	if s := Join(zero, One(Dot{4, 1}, 7), zero); s.Known() != 1 || !holds(s, Dot{4, 1}) {
		t.Errorf("joined with the zero store: %v", s)
	}
	if s := Join[int](); s.Known() != 0 {
		t.Errorf("nothing joined: %v", s)
	}
}

func holds[T any](s Store[T], d Dot) bool {
	_, ok := maps.Collect(s.All())[d]
	return ok
}

func TestJoinDropsWhatHasGone(t *testing.T) {
	a, b := Dot{0, 1}, Dot{1, 1}
	both := Join(One(a, "a"), One(b, "b"))
	if !holds(both, a) || !holds(both, b) || both.Known() != 2 {
		t.Errorf("two joined: %v", both)
	}
	for _, s := range []Store[string]{Join(both, Gone[string](a)), Join(Gone[string](a), both), Join(Gone[string](a), One(b, "b"), both)} {
		if holds(s, a) || !holds(s, b) || s.Known() != 2 {
			t.Errorf("one of two gone: %v", s)
		}
	}
	if s := Join(Gone[string](b), One(a, "a")); !holds(s, a) || s.Known() != 2 {
		t.Errorf("another one gone: %v", s)
	}
	if !holds(both, a) {
		t.Errorf("a join changed what it joined: %v", both)
	}
}

func TestAllInOrder(t *testing.T) {
	want := []Dot{{0, 1}, {0, 2}, {0, 10}, {1, 1}, {1, 3}, {5, 1}}
	s := Store[int]{}
	for k := range want {
		s = Join(One(want[len(want)-1-k], k), s)
	}
	var got []Dot
	for d := range s.All() {
		got = append(got, d)
	}
	if !slices.Equal(got, want) {
		t.Errorf("all: %v", got)
	}
	for d := range s.All() {
		if d != want[0] {
			t.Errorf("went on behind a break: %v", d)
		}
		break
	}
}

// some is a store of dots that are alive, gone or not known; a dot always has
// the same item.
func some(source *rand.Rand) Store[int] {
	s := Gone[int]()
	for who := range 3 {
		for nth := 1; nth <= 4; nth++ {
			d := Dot{who, nth}
			switch source.Intn(3) {
			case 0:
				s = Join(s, One(d, who*10+nth))
			case 1:
				s = Join(s, Gone[int](d))
			}
		}
	}
	return s
}

func TestJoinLaws(t *testing.T) {
	source := rand.New(rand.NewSource(2))
	for range 300 {
		a, b, c := some(source), some(source), some(source)
		all := Join(a, b, c)
		for k, other := range []Store[int]{Join(c, b, a), Join(Join(a, b), c), Join(a, Join(b, c)), Join(all, a), Join(all, all), Join(a, a, b, c, b), Join(all)} {
			if !reflect.DeepEqual(all, other) {
				t.Fatalf("%d: %v and %v", k, all, other)
			}
		}
		checkJoined(t, all, a, b, c)
	}
}

func checkJoined(t *testing.T, all Store[int], stores ...Store[int]) {
	t.Helper()
	known := 0
	for who := range 3 {
		for nth := 1; nth <= 4; nth++ {
			d := Dot{who, nth}
			has, alive := false, true
			for _, s := range stores {
				has = has || s.known.has(d)
				alive = alive && (holds(s, d) || !s.known.has(d))
			}
			if holds(all, d) != (has && alive) || all.known.has(d) != has {
				t.Fatalf("%v of %v joined: %v", d, stores, all)
			}
			if has {
				known++
			}
		}
	}
	if all.Known() != known {
		t.Fatalf("%v knows %d, not %d", stores, all.Known(), known)
	}
}

func TestSince(t *testing.T) {
	a, b, c := Dot{0, 1}, Dot{0, 2}, Dot{1, 1}
	older := Join(One(a, "a"), One(b, "b"))
	for _, pair := range []struct{ now, news Store[string] }{
		{older, Gone[string]()},
		{Join(older, One(c, "c")), One(c, "c")},
		{Join(older, Gone[string](c)), Gone[string](c)},
		{Join(older, Gone[string](a)), Gone[string](a)},
		{Join(older, Gone[string](b), One(c, "c")), Of(map[Dot]string{c: "c"}, b)},
	} {
		if got := pair.now.Since(older); !reflect.DeepEqual(got, pair.news) {
			t.Errorf("%v since %v: %v", pair.now, older, got)
		}
	}
	if got := older.Since(Store[string]{}); !reflect.DeepEqual(got, older) {
		t.Errorf("since nothing: %v", got)
	}
}

func TestSinceLeadsOn(t *testing.T) {
	source := rand.New(rand.NewSource(4))
	for range 300 {
		older, other := some(source), some(source)
		now := Join(older, other)
		news := now.Since(older)
		if again := Join(older, news); !reflect.DeepEqual(again, now) {
			t.Fatalf("%v and %v make %v, not %v", older, news, again, now)
		}
		if least := now.Known() - older.Known(); news.Known() < least || news.Known() > least+older.Items() {
			t.Fatalf("%v since %v: %v", now, older, news)
		}
		if more := now.Since(now); more.Known() != 0 {
			t.Fatalf("%v since itself: %v", now, more)
		}
	}
}
