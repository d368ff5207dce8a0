package eval

import "helix/api"

// work is what a field says: the value of each state, and of the beginning, at each cell.
type work struct {
	field
	// numbers has the beginning's table, and behind it each state's.
	numbers []table[int]
	// having tells which of them have a value at a cell.
	having table[set]
}

// workOut goes through the cells row by row, so that those ahead of a cell are through when it is asked.
func (f *field) workOut() *work {
	rows, columns := len(f.x)+1, len(f.y)+1
	w := &work{field: *f, having: tableOf[set](rows, columns)}
	for range len(f.r.States) + 1 {
		w.numbers = append(w.numbers, tableOf[int](rows, columns))
	}
	for i := range rows {
		for j := range columns {
			if f.inBand(i, j) {
				w.fill(i, j)
			}
		}
	}
	return w
}

// fill lays down all values of a cell that counts.
func (w *work) fill(i, j int) {
	if w.mayBegin(i, j) {
		w.keep(start, i, j, w.front(j))
	}
	for state := range w.r.States {
		if n, has := w.greatest(state, i, j); has {
			w.keep(state, i, j, n)
		}
	}
}

// front is the beginning's value in a column.
func (w *work) front(j int) int {
	if j == 0 {
		return 0
	}
	return -w.values[w.r.Front]
}

func (w *work) keep(state, i, j, n int) {
	w.numbers[state+1].put(i, j, n)
	w.having.put(i, j, w.having.at(i, j).with(state))
}

// value is a state's, or the beginning's, and whether it has one. What lies outside has none.
func (w *work) value(state, i, j int) (int, bool) {
	if i < 0 || j < 0 || !w.having.at(i, j).has(state) {
		return 0, false
	}
	return w.numbers[state+1].at(i, j), true
}

// greatest is the greatest number that an edge gives a state at a cell, and whether one gives any.
func (w *work) greatest(state, i, j int) (int, bool) {
	s := w.r.States[state]
	best, found := 0, false
	for _, e := range s.From {
		if n, gives := w.given(s.Kind, e, i, j); gives && (!found || n > best) {
			best, found = n, true
		}
	}
	return best, found
}

// given is what an edge gives a state of a kind at a cell, and whether it gives anything.
func (w *work) given(kind int, e api.Edge, i, j int) (int, bool) {
	down, right := step(kind)
	n, has := w.value(e.State, i-down, j-right)
	if !has {
		return 0, false
	}
	n -= w.cost(e)
	if kind == api.KindMatch {
		n += w.subst(i, j)
	}
	return n, true
}

// step tells how many rows and columns of cells a column of a kind goes on by.
func step(kind int) (int, int) {
	switch kind {
	case api.KindMatch:
		return 1, 1
	case api.KindDelete:
		return 1, 0
	}
	return 0, 1
}
