package path

import (
	"iter"

	"helix/api"
	"helix/bound"
)

// field is the cells of two sequences, and the model by which paths go through them.
type field struct {
	m    api.Model
	x, y []int
}

// fieldOf is that of a model and two sequences, or the error of them.
func fieldOf(m api.Model, x, y []int) (field, api.Errno) {
	most, e := bound.Most(m)
	if e != api.OK {
		return field{}, e
	}
	if !areLetters(m.Letters, x) || !areLetters(m.Letters, y) {
		return field{}, api.ErrSymbol
	}
	if max(len(x), len(y)) > most {
		return field{}, api.ErrTooLong
	}
	return field{m: m, x: x, y: y}, api.OK
}

// shortFieldOf is one of which all paths may be told.
func shortFieldOf(m api.Model, x, y []int) (field, api.Errno) {
	f, e := fieldOf(m, x, y)
	if e != api.OK {
		return field{}, e
	}
	if len(x)+len(y) > api.MaxAll {
		return field{}, api.ErrLong
	}
	return f, api.OK
}

// areLetters tells whether each number of a sequence is one of so many letters.
func areLetters(letters int, sequence []int) bool {
	for _, n := range sequence {
		if n < 0 || n >= letters {
			return false
		}
	}
	return true
}

// has tells whether (i, j) is a cell, and in the band.
func (f field) has(i, j int) bool {
	// Cells are asked first: of them the diagonal is no number that goes round.
	if i < 0 || i > len(f.x) || j < 0 || j > len(f.y) {
		return false
	}
	return !f.m.Banded || f.m.Lo <= j-i && j-i <= f.m.Hi
}

// mayBegin tells whether the mode lets a path begin at a cell.
func (f field) mayBegin(i, j int) bool {
	switch f.m.Mode {
	case api.Fit:
		return j == 0
	case api.Local:
		return true
	}
	return i == 0 && j == 0
}

// mayEnd tells whether the mode lets a path end at a cell.
func (f field) mayEnd(i, j int) bool {
	switch f.m.Mode {
	case api.Global:
		return i == len(f.x) && j == len(f.y)
	case api.Fit:
		return j == len(f.y)
	}
	return true
}

// mayGo tells whether a path may have a column.
func (f field) mayGo(column byte) bool {
	switch column {
	case 'M':
		return true
	case 'D', 'I':
		return len(f.m.Gaps) > 0
	}
	return false
}

// allows tells whether a path is legal; it goes on no further than the cells do, however many columns there are.
func (f field) allows(p api.Path) bool {
	i, j := p.I, p.J
	if !f.has(i, j) || !f.mayBegin(i, j) {
		return false
	}
	for at := range len(p.Columns) {
		column := p.Columns[at]
		down, right := step(column)
		i, j = i+down, j+right
		if !f.mayGo(column) || !f.has(i, j) {
			return false
		}
	}
	return f.mayEnd(i, j)
}

// worth is a legal path's score.
func (f field) worth(p api.Path) int {
	i, j, score, gap := p.I, p.J, 0, 0
	if j > 0 {
		score -= f.m.Front
	}
	for at := range len(p.Columns) {
		column := p.Columns[at]
		down, right := step(column)
		i, j = i+down, j+right
		if column == 'M' {
			score += f.m.Subst[f.x[i-1]*f.m.Letters+f.y[j-1]]
			continue
		}
		gap++
		if at+1 == len(p.Columns) || p.Columns[at+1] != column {
			score -= leastLine(gap, f.m.Gaps)
			gap = 0
		}
	}
	if j < len(f.y) {
		score -= f.m.Back
	}
	return score
}

// paths hands on all legal paths, one after another, in order.
func (f field) paths() iter.Seq[api.Path] {
	return func(yield func(api.Path) bool) {
		for i := range len(f.x) + 1 {
			for j := range len(f.y) + 1 {
				if !f.mayEnd(i, j) {
					continue
				}
				for p := range f.into(i, j, "") {
					if !yield(p) {
						return
					}
				}
			}
		}
	}
}

// into hands on all paths that begin where the mode lets them, come to the cell (i, j), and go on from it by the columns behind. It goes back from the last column to the first, and hands on the path that begins here ahead of those that begin further back, so that they come in order.
func (f field) into(i, j int, behind string) iter.Seq[api.Path] {
	return func(yield func(api.Path) bool) {
		if !f.has(i, j) {
			return
		}
		if f.mayBegin(i, j) && !yield(api.Path{I: i, J: j, Columns: behind}) {
			return
		}
		for _, column := range []byte("MDI") {
			if !f.mayGo(column) {
				continue
			}
			down, right := step(column)
			for p := range f.into(i-down, j-right, string(column)+behind) {
				if !yield(p) {
					return
				}
			}
		}
	}
}
