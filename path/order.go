package path

import (
	"cmp"

	"helix/api"
)

// compare is below 0, if a stands ahead of b, and above 0, if b stands ahead of a.
func compare(a, b api.Path) int {
	ai, aj := end(a)
	bi, bj := end(b)
	return cmp.Or(cmp.Compare(ai, bi), cmp.Compare(aj, bj), compareColumns(a.Columns, b.Columns))
}

// end is the cell where a path's columns lead.
func end(p api.Path) (int, int) {
	i, j := p.I, p.J
	for at := range len(p.Columns) {
		down, right := step(p.Columns[at])
		i, j = i+down, j+right
	}
	return i, j
}

// step tells how many rows and columns of cells a column goes on by.
func step(column byte) (int, int) {
	switch column {
	case 'M':
		return 1, 1
	case 'D':
		return 1, 0
	case 'I':
		return 0, 1
	}
	return 0, 0
}

// compareColumns holds columns against each other from the last to the first.
func compareColumns(a, b string) int {
	for n := 1; n <= min(len(a), len(b)); n++ {
		if c := cmp.Compare(rank(a[len(a)-n]), rank(b[len(b)-n])); c != 0 {
			return c
		}
	}
	return cmp.Compare(len(a), len(b))
}

// rank is a column's among all bytes: those that are none stand behind those that are.
func rank(column byte) int {
	switch column {
	case 'M':
		return 0
	case 'D':
		return 1
	case 'I':
		return 2
	}
	return 3 + int(column)
}
