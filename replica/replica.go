// Package replica: one replica, and the events that it knows.
package replica

import (
	"iter"

	"thicket/changes"
	"thicket/dots"
	"thicket/frames"
	"thicket/pieces"
	"thicket/values"
)

// Replica has a dot for each event that it knows, and at the dot the effect, as
// long as it is alive. It keeps pieces of that for its neighbours.
type Replica struct {
	who   int
	known dots.Store[changes.Change]
	kept  *pieces.Kept[changes.Change]
}

// New makes a replica of a number, that knows nothing, with room for so many
// pieces.
func New(who, room int, neighbours ...int) *Replica {
	return &Replica{who: who, kept: pieces.New[changes.Change](room, neighbours...)}
}

// Accept takes a change as one more event of this replica's. It saw all that is
// known here: so what it covers of the effects alive is gone.
func (r *Replica) Accept(c changes.Change) {
	event := r.known.Next(r.who)
	gone := dots.Gone[changes.Change](r.covered(c)...)
	made := dots.Gone[changes.Change](event)
	if c.IsEffect() {
		made = dots.One(event, c)
	}
	r.learn(r.who, gone, made)
}

// learn joins stores to what is known, and keeps what was new of them as a piece.
func (r *Replica) learn(from int, stores ...dots.Store[changes.Change]) {
	now := dots.Join(append(stores, r.known)...)
	news := now.Since(r.known)
	if news.Known() == 0 {
		return
	}
	r.known = now
	r.kept.Add(news, from, r.Knows())
}

func (r *Replica) covered(c changes.Change) []dots.Dot {
	var found []dots.Dot
	for d, effect := range r.known.All() {
		if c.Covers(effect) {
			found = append(found, d)
		}
	}
	return found
}

// Send is a frame that brings a neighbour what it may not have, or all that is
// known here, if that is shorter: of many effects that have gone nothing is left
// there but that they are known.
func (r *Replica) Send(to int) frames.Frame {
	whole := r.bringing(r.known)
	news, ok := r.kept.News(to)
	if !ok {
		return whole
	}
	slim := r.bringing(news)
	if len(slim.Bytes()) > len(whole.Bytes()) {
		return whole
	}
	return slim
}

func (r *Replica) bringing(what dots.Store[changes.Change]) frames.Frame {
	return frames.Frame{From: r.who, Mark: r.Knows(), Brings: what}
}

// Receive takes what a frame brings, and answers the acknowledgement.
func (r *Replica) Receive(f frames.Frame) frames.Frame {
	r.learn(f.From, f.Brings)
	return frames.Frame{From: r.who, Mark: f.Mark, Acknowledges: true}
}

// Acknowledged takes an acknowledgement.
func (r *Replica) Acknowledged(f frames.Frame) { r.kept.Acknowledge(f.From, f.Mark) }

// Waiting is how many pieces the replica keeps.
func (r *Replica) Waiting() int { return r.kept.Waiting() }

// Tick drops the pieces that all neighbours have acknowledged.
func (r *Replica) Tick() { r.kept.Tick() }

// Tell is what the effects alive here make of a path.
func (r *Replica) Tell(path changes.Path) string { return values.At(path, r.alive()) }

func (r *Replica) alive() iter.Seq[changes.Change] {
	return func(yield func(changes.Change) bool) {
		for _, effect := range r.known.All() {
			if !yield(effect) {
				return
			}
		}
	}
}

// Knows is how many events the replica knows.
func (r *Replica) Knows() int { return r.known.Known() }

// Made is how many events the replica has accepted itself: it knows all of these.
func (r *Replica) Made() int { return r.known.Next(r.who).Nth - 1 }
