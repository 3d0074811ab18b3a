// Package values: what the effects that are alive make of a path, as a text.
package values

import (
	"iter"
	"slices"
	"strconv"
	"strings"

	"thicket/changes"
)

// At tells what is at a path, of effects that are alive.
func At(path changes.Path, alive iter.Seq[changes.Change]) string {
	switch path.Kind() {
	case changes.Map:
		return list(steps(path, alive))
	case changes.Flag:
		return flag(here(path, alive))
	case changes.Counter:
		return sum(here(path, alive))
	}
	return list(written(here(path, alive)))
}

// here: the effects at the very path.
func here(path changes.Path, alive iter.Seq[changes.Change]) iter.Seq[changes.Change] {
	return func(yield func(changes.Change) bool) {
		for e := range alive {
			if e.Path == path && !yield(e) {
				return
			}
		}
	}
}

// steps: the segments right behind a map's path.
func steps(path changes.Path, alive iter.Seq[changes.Change]) []string {
	var found []string
	for e := range alive {
		if segment, ok := path.Step(e.Path); ok {
			found = append(found, segment)
		}
	}
	return found
}

func written(effects iter.Seq[changes.Change]) []string {
	var found []string
	for e := range effects {
		found = append(found, e.Value)
	}
	return found
}

func flag(raised iter.Seq[changes.Change]) string {
	for range raised {
		return "1"
	}
	return "0"
}

func sum(counted iter.Seq[changes.Change]) string {
	// 64 bits on every machine: MaxEvents times MaxCount is beyond 32.
	var total int64
	for e := range counted {
		total += e.Number
	}
	return strconv.FormatInt(total, 10)
}

func list(found []string) string {
	slices.Sort(found)
	// Join hands on a single text as it is; an answer is new memory.
	return strings.Clone(strings.Join(slices.Compact(found), ","))
}
