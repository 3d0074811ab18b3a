package dots

import "cmp"

// Dot names one event: the replica that made it, and the how-many-th of that
// replica's it is, from 1 on.
type Dot struct {
	Who int
	Nth int
}

func (d Dot) compare(other Dot) int {
	return cmp.Or(cmp.Compare(d.Who, other.Who), cmp.Compare(d.Nth, other.Nth))
}

// context is a set of dots. A replica's dots mostly come without a gap, so that
// a count stands for them; only those behind a gap are kept one by one.
type context struct {
	counts map[int]int
	loose  map[Dot]struct{}
}

func newContext() context {
	return context{counts: map[int]int{}, loose: map[Dot]struct{}{}}
}

func (c context) has(d Dot) bool {
	if d.Nth <= c.counts[d.Who] {
		return true
	}
	_, ok := c.loose[d]
	return ok
}

// next is the first dot of a replica that is not in the set.
func (c context) next(who int) Dot {
	return Dot{Who: who, Nth: c.counts[who] + 1}
}

func (c context) size() int {
	n := len(c.loose)
	for _, count := range c.counts {
		n += count
	}
	return n
}

func (c context) add(d Dot) {
	if c.has(d) {
		return
	}
	c.loose[d] = struct{}{}
	c.closeGap(d.Who)
}

// closeGap takes dots into the count that were behind a gap until now: so there
// is one form alone of each set, whatever the order in which its dots came.
func (c context) closeGap(who int) {
	for {
		d := c.next(who)
		if _, ok := c.loose[d]; !ok {
			return
		}
		delete(c.loose, d)
		c.counts[who]++
	}
}

func (c context) addAll(other context) {
	for who, count := range other.counts {
		for nth := c.next(who).Nth; nth <= count; nth++ {
			c.add(Dot{Who: who, Nth: nth})
		}
	}
	for d := range other.loose {
		c.add(d)
	}
}
