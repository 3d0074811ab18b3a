// Package pieces: what a replica keeps for its neighbours, of what it has learnt
// lately.
package pieces

import (
	"slices"

	"thicket/dots"
)

// Kept is a replica's pieces, the oldest first, and what its neighbours have
// acknowledged.
//
// A piece's mark is how many events the replica knew once it had learnt it: it
// grows from piece to piece, and tells a piece whatever was dropped ahead of it.
type Kept[T any] struct {
	room         int
	pieces       []piece[T]
	dropped      int         // the mark of the last piece that was dropped
	acknowledged map[int]int // for each neighbour a mark: it has all up to this one
}

type piece[T any] struct {
	mark   int
	from   int
	learnt dots.Store[T]
}

// New has no pieces yet, and room for so many.
func New[T any](room int, neighbours ...int) *Kept[T] {
	k := &Kept[T]{room: room, acknowledged: map[int]int{}}
	for _, j := range neighbours {
		k.acknowledged[j] = 0
	}
	return k
}

// Add keeps a piece: what was learnt, from whom, and its mark.
func (k *Kept[T]) Add(learnt dots.Store[T], from, mark int) {
	k.pieces = append(k.pieces, piece[T]{mark: mark, from: from, learnt: learnt})
	if len(k.pieces) > k.room {
		k.dropOldest()
	}
}

func (k *Kept[T]) dropOldest() {
	k.dropped = k.pieces[0].mark
	k.pieces = slices.Delete(k.pieces, 0, 1)
}

// Lose: no pieces are left, nor what neighbours have acknowledged. All that was
// known ahead of it, up to a mark, is as if it had been dropped.
func (k *Kept[T]) Lose(mark int) {
	k.pieces, k.dropped = nil, mark
	for j := range k.acknowledged {
		k.acknowledged[j] = 0
	}
}

// Waiting is how many pieces are kept.
func (k *Kept[T]) Waiting() int { return len(k.pieces) }

// Acknowledge: a neighbour has all pieces up to a mark. Older acknowledgements
// that come late take nothing back.
func (k *Kept[T]) Acknowledge(by, mark int) {
	k.acknowledged[by] = max(k.acknowledged[by], mark)
}

// Tick drops the pieces that all neighbours have acknowledged.
func (k *Kept[T]) Tick() {
	for len(k.pieces) > 0 && k.allHave(k.pieces[0].mark) {
		k.dropOldest()
	}
}

func (k *Kept[T]) allHave(mark int) bool {
	for _, has := range k.acknowledged {
		if has < mark {
			return false
		}
	}
	return true
}

// News is what a neighbour may not have: the pieces that it has not acknowledged,
// and that it did not bring itself. Not ok, if some of these were dropped.
func (k *Kept[T]) News(neighbour int) (news dots.Store[T], ok bool) {
	has := k.acknowledged[neighbour]
	if has < k.dropped {
		return news, false
	}
	var lacking []dots.Store[T]
	for _, p := range k.pieces {
		if p.mark > has && p.from != neighbour {
			lacking = append(lacking, p.learnt)
		}
	}
	return dots.Join(lacking...), true
}
