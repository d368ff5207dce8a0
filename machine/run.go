package machine

import "helix/api"

// run is a code at work on two sequences, at a cell (i, j). The table that it fills stands apart, since neither code nor sequences are asked for behind the run.
type run struct {
	*Table
	code api.Code
	x, y []int
	i, j int
	regs [api.MaxRegs]slot
}

// act is what an instruction of one kind does.
type act func(r *run, in api.Instr)

// acts has all of them, each at the place of its Op.
func acts() []act {
	return []act{
		api.OpNone:  (*run).none,
		api.OpStart: (*run).start,
		api.OpLoad:  (*run).load,
		api.OpAdd:   (*run).add,
		api.OpTable: (*run).table,
		api.OpMeet:  (*run).meet,
		api.OpKeep:  (*run).store,
		api.OpEnd:   (*run).end,
	}
}

// allCells goes through the code at each cell that is run, row by row, so that the cells one step back are through.
func (r *run) allCells() {
	does := acts()
	for r.i = 0; r.i <= len(r.x); r.i++ {
		last := min(len(r.y), r.i+r.code.Hi)
		for r.j = max(0, r.i+r.code.Lo); r.j <= last; r.j++ {
			r.cell(does)
		}
	}
}

// cell goes through the code once.
func (r *run) cell(does []act) {
	for _, in := range r.code.Cell {
		does[in.Op](r, in)
	}
	r.steps += len(r.code.Cell)
}

func (r *run) none(in api.Instr) { r.regs[in.A] = slot{} }

func (r *run) start(in api.Instr) {
	r.regs[in.A] = slot{}
	if meets(in.C, r.i == 0, r.j == 0) {
		r.regs[in.A] = slot{has: true, number: r.code.Consts[in.B]}
	}
}

// load takes the number alone: which ways led to it is told of the cell that it comes from.
func (r *run) load(in api.Instr) {
	up, left := back(in.C)
	from := r.at(in.B, r.i-up, r.j-left)
	r.regs[in.A] = slot{has: from.has, number: from.number}
}

func (r *run) add(in api.Instr) {
	if a := &r.regs[in.A]; a.has {
		a.number += r.code.Consts[in.B]
	}
}

// table takes the number away where there are no two letters to stand over each other.
func (r *run) table(in api.Instr) {
	a := &r.regs[in.A]
	switch {
	case r.i == 0 || r.j == 0:
		a.has, a.number = false, 0
	case a.has:
		a.number += r.code.Table[r.x[r.i-1]*r.code.Letters+r.y[r.j-1]]
	}
}

func (r *run) meet(in api.Instr) {
	a, b := &r.regs[in.A], r.regs[in.B]
	switch {
	case !b.has:
	case !a.has || a.number < b.number:
		*a = slot{has: true, number: b.number, mask: 1 << in.C}
	case a.number == b.number:
		a.mask |= 1 << in.C
	}
}

func (r *run) store(in api.Instr) { r.keep(in.A, r.i, r.j, r.regs[in.B]) }

func (r *run) end(in api.Instr) {
	n, has := r.Value(in.A, r.i, r.j)
	if has && meets(in.C, r.i == len(r.x), r.j == len(r.y)) {
		r.greatest.meet(in.A, r.i, r.j, n+r.code.Consts[in.B])
	}
}

// meets tells whether a cell, which stands in the row and the column that are asked for or not, meets a where.
func meets(where int, row, column bool) bool {
	switch where {
	case api.WhereRow:
		return row
	case api.WhereColumn:
		return column
	case api.WhereCorner:
		return row && column
	}
	return true
}

// back tells how many rows and columns a step goes back by.
func back(step int) (up, left int) {
	switch step {
	case api.StepM:
		return 1, 1
	case api.StepD:
		return 1, 0
	case api.StepI:
		return 0, 1
	}
	return 0, 0
}
