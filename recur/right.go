package recur

import "helix/api"

// rightSubst asks for the letters and their scores. How many letters there are is asked first, since the square of any number may be too great for an int.
func rightSubst(r api.Recur) bool {
	return within(r.Letters, 2, api.MaxLetters) && len(r.Subst) == r.Letters*r.Letters && arePlaces(len(r.Defs), r.Subst...)
}

// rightEnds asks where paths begin and end, and what it costs to leave out ends.
func rightEnds(r api.Recur, values []int) bool {
	if !within(r.Begin, api.AtCorner, api.AtAny) || !within(r.End, api.AtCorner, api.AtAny) {
		return false
	}
	return arePlaces(len(values), r.Front, r.Back) && values[r.Front] >= 0 && values[r.Back] >= 0
}

func rightBand(r api.Recur) bool {
	if r.Banded {
		return r.Lo <= r.Hi
	}
	return r.Lo == 0 && r.Hi == 0
}

func rightStates(r api.Recur) bool {
	if len(r.States) > api.MaxStates {
		return false
	}
	for _, s := range r.States {
		if !within(s.Kind, api.KindMatch, api.KindInsert) || !rightEdges(len(r.States), len(r.Defs), s.From) {
			return false
		}
	}
	return true
}

// rightEdges asks of a state's edges that they rise, from the beginning to the last of so many states, which leaves no two alike.
func rightEdges(states, defs int, from []api.Edge) bool {
	least := start
	for _, e := range from {
		if !within(e.State, least, states-1) {
			return false
		}
		if e.Cost != free && !arePlaces(defs, e.Cost) {
			return false
		}
		least = e.State + 1
	}
	return true
}

// arePlaces tells whether all are places of so many definitions.
func arePlaces(defs int, places ...int) bool {
	for _, p := range places {
		if !within(p, 0, defs-1) {
			return false
		}
	}
	return true
}

func within(n, least, most int) bool { return n >= least && n <= most }
