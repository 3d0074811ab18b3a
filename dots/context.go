package dots

import (
	"cmp"
	"maps"
	"slices"
)

// Dot names one event: the replica that made it, and the how-many-th of that
// replica's it is, from 1 on.
type Dot struct {
	Who int
	Nth int
}

func (d Dot) compare(other Dot) int {
	return cmp.Or(cmp.Compare(d.Who, other.Who), cmp.Compare(d.Nth, other.Nth))
}

// Run is dots of one replica without a gap between them: the first, and how many.
type Run struct {
	First Dot
	Many  int
}

// Dots are those of the run, in order.
func (r Run) Dots() []Dot {
	var all []Dot
	for k := range r.Many {
		all = append(all, r.at(k))
	}
	return all
}

func (r Run) at(k int) Dot { return Dot{Who: r.First.Who, Nth: r.First.Nth + k} }

// context is a set of dots. A replica's dots mostly come without a gap, so that
// a count stands for them; only those behind a gap are kept one by one.
type context struct {
	counts map[int]int
	loose  map[Dot]struct{}
}

func newContext() context {
	return context{counts: map[int]int{}, loose: map[Dot]struct{}{}}
}

func (c context) has(d Dot) bool {
	if d.Nth <= c.counts[d.Who] {
		return true
	}
	_, ok := c.loose[d]
	return ok
}

// next is the first dot of a replica that is not in the set.
func (c context) next(who int) Dot {
	return Dot{Who: who, Nth: c.counts[who] + 1}
}

func (c context) size() int {
	n := len(c.loose)
	for _, count := range c.counts {
		n += count
	}
	return n
}

func (c context) add(d Dot) {
	if c.has(d) {
		return
	}
	c.loose[d] = struct{}{}
	c.closeGap(d.Who)
}

// closeGap takes dots into the count that were behind a gap until now: so there
// is one form alone of each set, whatever the order in which its dots came.
func (c context) closeGap(who int) {
	for {
		d := c.next(who)
		if _, ok := c.loose[d]; !ok {
			return
		}
		delete(c.loose, d)
		c.counts[who]++
	}
}

func (c context) addAll(other context) {
	for who, count := range other.counts {
		for nth := c.next(who).Nth; nth <= count; nth++ {
			c.add(Dot{Who: who, Nth: nth})
		}
	}
	for d := range other.loose {
		c.add(d)
	}
}

// all is the set's dots, in order.
func (c context) all() []Dot {
	all := slices.Collect(maps.Keys(c.loose))
	for who, count := range c.counts {
		all = append(all, Run{First: Dot{Who: who, Nth: 1}, Many: count}.Dots()...)
	}
	slices.SortFunc(all, Dot.compare)
	return all
}

// runs tells the set in as few runs as can be, in order.
func (c context) runs() []Run {
	var runs []Run
	for _, d := range c.all() {
		last := len(runs) - 1
		if last >= 0 && runs[last].at(runs[last].Many) == d {
			runs[last].Many++
		} else {
			runs = append(runs, Run{First: d, Many: 1})
		}
	}
	return runs
}
