package eval

// table holds a thing for each cell of two sequences.
type table[T any] struct {
	columns int
	cells   []T
}

// tableOf is one of so many rows and columns, with a zero value in each cell.
func tableOf[T any](rows, columns int) table[T] {
	return table[T]{columns: columns, cells: make([]T, rows*columns)}
}

func (t table[T]) at(i, j int) T {
	return t.cells[i*t.columns+j]
}

func (t table[T]) put(i, j int, thing T) {
	t.cells[i*t.columns+j] = thing
}

// set is some of the states and of the beginning: a bit each, in the order of their numbers, that of the beginning (-1) the lowest.
type set uint16

func (s set) with(state int) set {
	return s | 1<<(state+1)
}

func (s set) has(state int) bool {
	return s>>(state+1)&1 == 1
}
