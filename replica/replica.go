// Package replica: one replica, and the events that it knows.
package replica

import (
	"iter"

	"thicket/changes"
	"thicket/dots"
	"thicket/frames"
	"thicket/values"
)

// Replica has a dot for each event that it knows, and at the dot the effect, as
// long as it is alive.
type Replica struct {
	who   int
	known dots.Store[changes.Change]
}

// New makes a replica of a number, that knows nothing.
func New(who int) *Replica { return &Replica{who: who} }

// Accept takes a change as one more event of this replica's. It saw all that is
// known here: so what it covers of the effects alive is gone.
func (r *Replica) Accept(c changes.Change) {
	event := r.known.Next(r.who)
	gone := dots.Gone[changes.Change](r.covered(c)...)
	made := dots.Gone[changes.Change](event)
	if c.IsEffect() {
		made = dots.One(event, c)
	}
	r.known = dots.Join(r.known, gone, made)
}

func (r *Replica) covered(c changes.Change) []dots.Dot {
	var found []dots.Dot
	for d, effect := range r.known.All() {
		if c.Covers(effect) {
			found = append(found, d)
		}
	}
	return found
}

// Send is a frame that brings all that is known here.
func (r *Replica) Send() frames.Frame {
	return frames.Frame{From: r.who, Brings: r.known}
}

// Receive takes what a frame brings, and answers the acknowledgement.
func (r *Replica) Receive(f frames.Frame) frames.Frame {
	r.known = dots.Join(r.known, f.Brings)
	return frames.Frame{From: r.who, Acknowledges: true}
}

// Tell is what the effects alive here make of a path.
func (r *Replica) Tell(path changes.Path) string { return values.At(path, r.alive()) }

func (r *Replica) alive() iter.Seq[changes.Change] {
	return func(yield func(changes.Change) bool) {
		for _, effect := range r.known.All() {
			if !yield(effect) {
				return
			}
		}
	}
}

// Knows is how many events the replica knows.
func (r *Replica) Knows() int { return r.known.Known() }

// Made is how many events the replica has accepted itself: it knows all of these.
func (r *Replica) Made() int { return r.known.Next(r.who).Nth - 1 }
