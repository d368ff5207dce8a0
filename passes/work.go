package passes

import (
	"slices"

	"helix/api"
)

const (
	start = -1 // the State of an edge from a path's beginning
	free  = -1 // the Cost of an edge that costs nothing
)

// work is a right recurrence in progress, with the numbers of its definitions.
type work struct {
	api.Recur
	numbers []int
}

// cost is an edge's in numbers.
func (w *work) cost(e api.Edge) int {
	if e.Cost == free {
		return 0
	}
	return w.numbers[e.Cost]
}

// edge finds the one that leads into a state from another.
func (w *work) edge(from, to int) (api.Edge, bool) {
	for _, e := range w.States[to].From {
		if e.State == from {
			return e, true
		}
	}
	return api.Edge{}, false
}

// takeAway leaves a state out, with all edges into it and from it.
func (w *work) takeAway(gone int) {
	w.States = slices.Delete(w.States, gone, gone+1)
	for s := range w.States {
		w.States[s].From = without(gone, w.States[s].From)
	}
}

// without are the edges that stay where a state goes; those behind it move up.
func without(gone int, from []api.Edge) []api.Edge {
	from = slices.DeleteFunc(from, func(e api.Edge) bool { return e.State == gone })
	for k := range from {
		if from[k].State > gone {
			from[k].State--
		}
	}
	return from
}

// fold leaves of the definitions the numbers that are named, each once.
func (w *work) fold() {
	places := w.places()
	var kept []int
	for _, p := range places {
		kept = append(kept, w.numbers[*p])
	}
	slices.Sort(kept)
	kept = slices.Compact(kept)
	for _, p := range places {
		*p, _ = slices.BinarySearch(kept, w.numbers[*p])
	}
	w.Defs, w.numbers = defsOf(kept), kept
}

// places are where the recurrence has places of definitions, so that they can be renewed there.
func (w *work) places() []*int {
	all := []*int{&w.Front, &w.Back}
	for k := range w.Subst {
		all = append(all, &w.Subst[k])
	}
	for _, s := range w.States {
		for k := range s.From {
			if s.From[k].Cost != free {
				all = append(all, &s.From[k].Cost)
			}
		}
	}
	return all
}

func defsOf(numbers []int) []api.Def {
	defs := make([]api.Def, len(numbers))
	for k, n := range numbers {
		defs[k] = api.Def{Op: api.DefNum, Num: n}
	}
	return defs
}

// drop leaves the states that can be come to. It goes from the last one, so that those ahead keep their numbers.
func (w *work) drop() {
	found := w.found()
	for s := len(w.States) - 1; s >= 0; s-- {
		if !found[s] {
			w.takeAway(s)
		}
	}
}

// found tells of each state whether it can be come to. As many rounds as there are states are enough: each finds one at least, or no later one does.
func (w *work) found() []bool {
	found := make([]bool, len(w.States))
	leads := func(e api.Edge) bool { return e.State == start || found[e.State] }
	for range w.States {
		for s, state := range w.States {
			found[s] = !w.bars(state.Kind) && slices.ContainsFunc(state.From, leads)
		}
	}
	return found
}

// bars tells whether the band leaves no room for a kind: where it is a single diagonal, one column of D or of I leads off it.
func (w *work) bars(kind int) bool {
	return kind != api.KindMatch && w.Banded && w.Lo == w.Hi
}

// clamp says the band within what sequences of MaxLen letters reach.
func (w *work) clamp() {
	switch {
	case !w.Banded:
	case w.Lo > api.MaxLen:
		w.Lo, w.Hi = api.MaxLen+1, api.MaxLen+1
	case w.Hi < -api.MaxLen:
		w.Lo, w.Hi = -api.MaxLen-1, -api.MaxLen-1
	default:
		w.Lo, w.Hi = max(w.Lo, -api.MaxLen), min(w.Hi, api.MaxLen)
		if w.Lo == -api.MaxLen && w.Hi == api.MaxLen {
			w.Banded, w.Lo, w.Hi = false, 0, 0
		}
	}
}
