package trace

import (
	"slices"

	"helix/api"
	"helix/machine"
)

// set is one of planes: whether each of them is in it.
type set [api.MaxPlanes]bool

// setOf has the listed planes.
func setOf(list []int) set {
	var s set
	for _, plane := range list {
		s[plane] = true
	}
	return s
}

// walk goes back through a table: it is at a cell, with all planes by which the columns that were gone can be gone on.
type walk struct {
	table  *machine.Table
	arrows []api.Arrow
	i, j   int
	planes set
}

// path goes back to where it begins. It ends: a plane but 0 that has a number has it by a way, since no other code may run, and each way goes back.
func (w *walk) path() api.Path {
	var gone []byte
	for !w.planes[0] {
		step, from := w.least()
		gone = append(gone, w.back(step))
		w.planes = from
	}
	slices.Reverse(gone)
	return api.Path{I: w.i, J: w.j, Columns: string(gone)}
}

// least is the least step of all ways from here, and the planes that the ways with that step come from.
func (w *walk) least() (int, set) {
	step, from := api.StepI, set{}
	for _, a := range w.arrows {
		if a.Step > step || !w.open(a) {
			continue
		}
		if a.Step < step {
			step, from = a.Step, set{}
		}
		from[a.From] = true
	}
	return step, from
}

// open tells whether an arrow is a way from here.
func (w *walk) open(a api.Arrow) bool {
	return w.planes[a.Plane] && w.table.Mask(a.Plane, w.i, w.j)>>a.Bit&1 == 1
}

// back goes one step back, and tells its column.
func (w *walk) back(step int) byte {
	switch step {
	case api.StepM:
		w.i--
		w.j--
		return 'M'
	case api.StepD:
		w.i--
		return 'D'
	}
	w.j--
	return 'I'
}
