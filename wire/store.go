package wire

import (
	"thicket/api"
	"thicket/changes"
	"thicket/dots"
)

// MostEvents is how many events there can be. An event that was torn is not counted
// while its replica is down; so where one is left ahead of the bound, each replica
// may have that one.
const MostEvents = api.MaxEvents - 1 + api.MaxReplicas

// Store writes a store of effects: the dots that it knows, as runs, and then
// each effect with its dot.
func Store(out []byte, s dots.Store[changes.Change]) []byte {
	runs := s.Runs()
	out = Number(out, len(runs))
	for _, run := range runs {
		out = Number(dot(out, run.First), run.Many)
	}
	out = Number(out, s.Items())
	for d, effect := range s.All() {
		out = Text(dot(out, d), effect.Text())
	}
	return out
}

func dot(out []byte, d dots.Dot) []byte { return Number(Number(out, d.Who), d.Nth) }

// Store reads a store of effects.
func (r *Reader) Store() dots.Store[changes.Change] {
	var known []dots.Dot
	for range r.Number(0, MostEvents) {
		run := dots.Run{First: r.dot()}
		run.Many = r.Number(1, MostEvents)
		known = append(known, run.Dots()...)
	}
	effects := map[dots.Dot]changes.Change{}
	for range r.Number(0, MostEvents) {
		d := r.dot()
		effects[d] = r.effect()
	}
	return dots.Of(effects, known...)
}

func (r *Reader) dot() dots.Dot {
	who := r.Number(0, api.MaxReplicas-1)
	return dots.Dot{Who: who, Nth: r.Number(1, MostEvents)}
}

func (r *Reader) effect() changes.Change {
	c, e := changes.Read(r.Text())
	if e != api.OK || !c.IsEffect() {
		r.fail()
	}
	return c
}
