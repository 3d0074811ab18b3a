// Package dots: a store of dots with a causal context, and how stores are joined.
package dots

import (
	"iter"
	"maps"
	"slices"
)

// Store is what lies at dots, and the context: all dots that are known, those
// too at which nothing lies (any more). Stores are values: none is changed once
// it is made. The zero Store knows nothing.
type Store[T any] struct {
	items map[Dot]T
	known context
}

// Of is a store that knows dots, and has items at some: it knows the dots of
// these too.
func Of[T any](items map[Dot]T, known ...Dot) Store[T] {
	s := Store[T]{items: map[Dot]T{}, known: newContext()}
	for d, item := range items {
		s.items[d] = item
		s.known.add(d)
	}
	for _, d := range known {
		s.known.add(d)
	}
	return s
}

// One is a store that knows one dot, with an item at it.
func One[T any](d Dot, item T) Store[T] { return Of(map[Dot]T{d: item}) }

// Gone is a store that knows dots, with nothing at them.
func Gone[T any](gone ...Dot) Store[T] { return Of[T](nil, gone...) }

// Join is the store that knows all that the stores know. An item is in it, if it
// is in each store that knows its dot: who knows the dot and has no item there
// knows that it has gone.
func Join[T any](stores ...Store[T]) Store[T] {
	joined := Gone[T]()
	for _, s := range stores {
		joined.known.addAll(s.known)
		for d, item := range s.items {
			if !goneInAny(d, stores) {
				joined.items[d] = item
			}
		}
	}
	return joined
}

func goneInAny[T any](d Dot, stores []Store[T]) bool {
	return slices.ContainsFunc(stores, func(s Store[T]) bool {
		_, here := s.items[d]
		return !here && s.known.has(d)
	})
}

// Since is what a store knows that an older one, which was joined to it, did not:
// the dots that came, with their items, and those of which the item has gone. Joined
// to the older one it is the store again.
func (s Store[T]) Since(older Store[T]) Store[T] {
	news := Gone[T]()
	for _, d := range s.known.all() {
		item, here := s.items[d]
		_, was := older.items[d]
		if older.known.has(d) && here == was {
			continue
		}
		news.known.add(d)
		if here {
			news.items[d] = item
		}
	}
	return news
}

// Next is the first dot of a replica that the store does not know.
func (s Store[T]) Next(who int) Dot { return s.known.next(who) }

// Known is how many dots the store knows.
func (s Store[T]) Known() int { return s.known.size() }

// Items is how many items there are.
func (s Store[T]) Items() int { return len(s.items) }

// Runs tells the dots that the store knows, in order.
func (s Store[T]) Runs() []Run { return s.known.runs() }

// All goes through the items, in the order of their dots.
func (s Store[T]) All() iter.Seq2[Dot, T] {
	return func(yield func(Dot, T) bool) {
		for _, d := range slices.SortedFunc(maps.Keys(s.items), Dot.compare) {
			if !yield(d, s.items[d]) {
				return
			}
		}
	}
}
