package eval

import (
	"slices"

	"helix/api"
)

// end is a cell at which paths end, what they are worth, and the states in which they come to it.
type end struct {
	i, j, worth int
	states      set
}

// bestEnd is the one of the greatest worth, of equal ones the first in order; false: there is none.
func (w *work) bestEnd() (end, bool) {
	var best end
	found := false
	for i := range len(w.x) + 1 {
		for j := range len(w.y) + 1 {
			here, is := w.endAt(i, j)
			if is && (!found || here.worth > best.worth) {
				best, found = here, true
			}
		}
	}
	return best, found
}

// endAt is the best one at a cell, with all states that are worth so much there.
func (w *work) endAt(i, j int) (end, bool) {
	var best end
	found := false
	if !w.mayEnd(i, j) {
		return best, false
	}
	for state := start; state < len(w.r.States); state++ {
		n, has := w.value(state, i, j)
		if !has {
			continue
		}
		n -= w.back(j)
		if !found || n > best.worth {
			best, found = end{i: i, j: j, worth: n}, true
		}
		if n == best.worth {
			best.states = best.states.with(state)
		}
	}
	return best, found
}

// back is what it costs to end in a column.
func (w *work) back(j int) int {
	if j == len(w.y) {
		return 0
	}
	return w.values[w.r.Back]
}

// pathTo is the first path in order of those that come to an end by edges that give its worth. It goes back from the last column, by the least one that there is, and begins as soon as it may. All states that the columns so far can have come from are gone on with: they may be of several ways for the same columns.
func (w *work) pathTo(e end) api.Path {
	i, j, states := e.i, e.j, e.states
	var columns []byte
	for !states.has(start) {
		kind := w.leastKind(states)
		down, right := step(kind)
		states = w.ahead(states, kind, i, j)
		i, j = i-down, j-right
		columns = append(columns, column(kind))
	}
	slices.Reverse(columns)
	return api.Path{I: i, J: j, Columns: string(columns)}
}

// leastKind is the one of some states' kinds whose column stands ahead.
func (w *work) leastKind(states set) int {
	least := api.KindInsert
	for state, s := range w.r.States {
		if states.has(state) {
			least = min(least, s.Kind)
		}
	}
	return least
}

// ahead are the states, and the beginning, from which edges give those of a kind their values at a cell.
func (w *work) ahead(states set, kind, i, j int) set {
	var from set
	for state, s := range w.r.States {
		if s.Kind != kind || !states.has(state) {
			continue
		}
		value, _ := w.value(state, i, j)
		for _, e := range s.From {
			if n, gives := w.given(kind, e, i, j); gives && n == value {
				from = from.with(e.State)
			}
		}
	}
	return from
}

// column is the letter of a kind.
func column(kind int) byte {
	switch kind {
	case api.KindMatch:
		return 'M'
	case api.KindDelete:
		return 'D'
	}
	return 'I'
}
