package passes

import (
	"math"

	"helix/api"
)

// gap is what a row of columns in a gap state costs: the opening for the first one, going on for each further one.
type gap struct{ opening, goingOn int }

// prune takes away the gap states in whose place others can always stand. It goes from the last one, so that those ahead keep their numbers.
func (w *work) prune() {
	for s := len(w.States) - 1; s >= 0; s-- {
		if g, ok := w.gap(s); ok && g.neverBest(w.twinsOf(s)) {
			w.takeAway(s)
		}
	}
}

// gap tells what a gap state's columns cost, if the state is one.
func (w *work) gap(s int) (gap, bool) {
	own, ok := w.edge(s, s)
	if !ok || w.States[s].Kind == api.KindMatch {
		return gap{}, false
	}
	others := w.others(s)
	if len(others) == 0 {
		return gap{}, false
	}
	opening := w.cost(others[0])
	for _, e := range others {
		if w.cost(e) != opening {
			return gap{}, false
		}
	}
	return gap{opening, w.cost(own)}, true
}

// others are a state's edges but the one from itself.
func (w *work) others(s int) []api.Edge {
	var l []api.Edge
	for _, e := range w.States[s].From {
		if e.State != s {
			l = append(l, e)
		}
	}
	return l
}

// twinsOf are the gaps of a gap state's twins.
func (w *work) twinsOf(s int) []gap {
	var twins []gap
	for t := range w.States {
		if g, ok := w.gap(t); ok && t != s && w.States[t].Kind == w.States[s].Kind && w.comeAlike(s, t) && w.leadAlike(s, t) {
			twins = append(twins, g)
		}
	}
	return twins
}

// comeAlike tells whether the edges of two states, but those from themselves, come from the same states. Then neither has one from the other: the other would have to have it from itself, which does not count.
func (w *work) comeAlike(a, b int) bool {
	of, to := w.others(a), w.others(b)
	if len(of) != len(to) {
		return false
	}
	for k := range of {
		if of[k].State != to[k].State {
			return false
		}
	}
	return true
}

// leadAlike tells whether each third state has edges from both at the same cost, or from neither.
func (w *work) leadAlike(a, b int) bool {
	for third := range w.States {
		if third == a || third == b {
			continue
		}
		of, has := w.edge(a, third)
		to, too := w.edge(b, third)
		if has != too || has && w.cost(of) != w.cost(to) {
			return false
		}
	}
	return true
}

// neverBest tells whether for each number of columns one of some twins costs at most as much. A twin that opens no dearer serves up to some number of columns behind the first one, a twin that goes on cheaper from some number on; no number may be left between the two.
func (g gap) neverBest(twins []gap) bool {
	upTo, from := -1, math.MaxInt
	for _, t := range twins {
		opening, goingOn := t.opening-g.opening, t.goingOn-g.goingOn
		switch {
		case opening <= 0 && goingOn <= 0:
			return true
		case opening <= 0:
			upTo = max(upTo, -opening/goingOn)
		case goingOn < 0:
			from = min(from, (opening-1)/-goingOn+1)
		}
	}
	return from <= upTo+1
}
