package eval

import (
	"helix/api"
	"helix/check"
	"helix/recur"
)

const (
	// start is the State of an edge from a path's beginning.
	start = -1
	// free is the Cost of an edge that costs nothing.
	free = -1
	// spare is how much more than both sequences' letters is asked for, so that Front and Back have their room.
	spare = 4
	// widest is what all that a path adds up may not go beyond.
	widest = 1 << 62
)

// field is the cells of two sequences, and the recurrence by which paths go through them, with its definitions' numbers.
type field struct {
	r      api.Recur
	values []int
	x, y   []int
}

// fieldOf is that of a recurrence and two sequences, or the error of them.
func fieldOf(r api.Recur, x, y []int) (field, api.Errno) {
	values, e := check.Values(r.Defs...)
	if e != api.OK || !recur.Right(r) {
		return field{}, api.ErrRecur
	}
	if !areLetters(r.Letters, x) || !areLetters(r.Letters, y) {
		return field{}, api.ErrSymbol
	}
	f := field{r: r, values: values, x: x, y: y}
	if max(len(x), len(y)) > api.MaxLen || len(x)+len(y)+spare > widest/f.width() {
		return field{}, api.ErrTooLong
	}
	if (len(x)+1)*(len(y)+1) > api.MaxCells {
		return field{}, api.ErrCells
	}
	return f, api.OK
}

// areLetters tells whether each number of a sequence is one of so many letters.
func areLetters(letters int, sequence []int) bool {
	for _, n := range sequence {
		if n < 0 || n >= letters {
			return false
		}
	}
	return true
}

// width is the greatest number, without its sign, that a path can add or take at once; 1 at least.
func (f *field) width() int {
	w := 1
	for _, place := range f.r.Subst {
		w = max(w, f.values[place], -f.values[place])
	}
	for _, s := range f.r.States {
		for _, e := range s.From {
			w = max(w, f.cost(e), -f.cost(e))
		}
	}
	return max(w, f.values[f.r.Front], f.values[f.r.Back])
}

// cost is the number of an edge.
func (f *field) cost(e api.Edge) int {
	if e.Cost == free {
		return 0
	}
	return f.values[e.Cost]
}

// subst is what the two letters are worth that a match to a cell lays over each other.
func (f *field) subst(i, j int) int {
	return f.values[f.r.Subst[f.r.Letters*f.x[i-1]+f.y[j-1]]]
}

func (f *field) isCell(i, j int) bool {
	return i >= 0 && i <= len(f.x) && j >= 0 && j <= len(f.y)
}

// inBand tells whether a cell counts.
func (f *field) inBand(i, j int) bool {
	return !f.r.Banded || f.r.Lo <= j-i && j-i <= f.r.Hi
}

func (f *field) mayBegin(i, j int) bool {
	return allows(f.r.Begin, i == 0, j == 0)
}

func (f *field) mayEnd(i, j int) bool {
	return allows(f.r.End, i == len(f.x), j == len(f.y))
}

// allows tells whether a path may begin, or end, at a cell, of which is said whether its row, and its column, is the outermost.
func allows(where int, row, column bool) bool {
	switch where {
	case api.AtCorner:
		return row && column
	case api.AtSide:
		return column
	}
	return true
}
