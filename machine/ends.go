package machine

import "helix/api"

// ends are the greatest ones so far, of the first cell that has such a one.
type ends struct {
	found       bool
	score, i, j int
	planes      [api.MaxPlanes]bool
}

// meet takes an end. Ends must come in the order of cells: so of equal ones those of an earlier cell stay.
func (e *ends) meet(plane, i, j, score int) {
	if !e.found || score > e.score {
		*e = ends{found: true, score: score, i: i, j: j}
	}
	if e.score == score && e.i == i && e.j == j {
		e.planes[plane] = true
	}
}

// rising lists the planes.
func (e *ends) rising() []int {
	var list []int
	for plane, is := range e.planes {
		if is {
			list = append(list, plane)
		}
	}
	return list
}
