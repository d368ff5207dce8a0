package recur

import (
	"slices"

	"helix/api"
)

const (
	// start is the State of an edge from a path's beginning.
	start = -1
	// free is the Cost of an edge that costs nothing.
	free = -1
)

// ends tells by the mode which cells a path may begin at, and end at.
func ends(mode int) (begin, end int) {
	switch mode {
	case api.Fit:
		return api.AtSide, api.AtSide
	case api.Local:
		return api.AtAny, api.AtAny
	case api.Extend:
		return api.AtCorner, api.AtAny
	}
	return api.AtCorner, api.AtCorner
}

// openings are the definitions of what a gap's first column costs, by each piece.
func openings(pieces []api.Piece) []api.Def {
	var l []api.Def
	for _, p := range pieces {
		l = append(l, api.Def{Op: api.DefAdd, A: p.Open, B: p.Extend})
	}
	return l
}

// states are that of matches and two for each piece, whose openings stand from a place on.
func states(pieces []api.Piece, opening int) []api.State {
	n := len(pieces)
	deletes, inserts := upTo(1, n+1), upTo(n+1, 2*n+1)
	l := []api.State{{Kind: api.KindMatch, From: edges(free, upTo(start, 2*n+1)...)}}
	for k, p := range pieces {
		from := slices.Concat(edges(opening+k, start, 0), edges(p.Extend, deletes[k]), edges(opening+k, inserts...))
		l = append(l, api.State{Kind: api.KindDelete, From: from})
	}
	for k, p := range pieces {
		from := slices.Concat(edges(opening+k, start, 0), edges(opening+k, deletes...), edges(p.Extend, inserts[k]))
		l = append(l, api.State{Kind: api.KindInsert, From: from})
	}
	return l
}

// edges are those that lead from each of the states that are handed over, at one cost.
func edges(cost int, from ...int) []api.Edge {
	l := make([]api.Edge, 0, len(from))
	for _, s := range from {
		l = append(l, api.Edge{State: s, Cost: cost})
	}
	return l
}

// upTo are the numbers from one up to, without, another.
func upTo(from, to int) []int {
	l := make([]int, 0, to-from)
	for n := from; n < to; n++ {
		l = append(l, n)
	}
	return l
}
