package verify

import "helix/api"

// look goes through a code's instructions; it holds what those that it has gone past have left.
type look struct {
	code     api.Code
	regs     [api.MaxRegs]register
	planes   [api.MaxPlanes]plane
	heaviest int // the greatest weight so far
}

// plane tells whether it was kept in this cell, and of which weight.
type plane struct {
	kept   bool
	weight int
}

// instructions tells the place of the first one that is wrong, and what is wrong with it. Those behind it are not looked at, since they may build on what it has not left.
func (l *look) instructions() (int, api.Errno) {
	at, wrong := nowhere, api.OK
looking:
	for k, in := range l.code.Cell {
		switch {
		case !l.named(in):
			at, wrong = k, api.ErrVerifyRef
			break looking
		case !l.readable(in):
			at, wrong = k, api.ErrVerifyUse
			break looking
		case l.keptTwice(in):
			at, wrong = k, api.ErrVerifyStore
			break looking
		case !l.good(in):
			at, wrong = k, api.ErrVerifyWay
			break looking
		}
		l.past(in)
	}
	return at, wrong
}

// named tells whether all that an instruction names is there.
func (l *look) named(in api.Instr) bool {
	a, b, c := l.limits(in.Op)
	return in.A < a && in.B < b && in.C < c
}

// limits are those that an instruction's fields must be below; a field that says nothing must be below 1.
func (l *look) limits(op int) (a, b, c int) {
	const wheres, steps = api.WhereCorner + 1, api.StepI + 1
	regs, planes, consts := l.code.Regs, l.code.Planes, len(l.code.Consts)
	switch op {
	case api.OpStart:
		return regs, consts, wheres
	case api.OpLoad:
		return regs, planes, steps
	case api.OpAdd:
		return regs, consts, 1
	case api.OpMeet:
		return regs, regs, api.MaxBits
	case api.OpKeep:
		return planes, regs, 1
	case api.OpEnd:
		return planes, consts, wheres
	default: // OpNone and OpTable
		return regs, 1, 1
	}
}

// writes tells whether an instruction of that kind gives its register a number of its own.
func writes(op int) bool { return op == api.OpNone || op == api.OpStart || op == api.OpLoad }

// readable tells whether what an instruction reads was written, or kept, ahead of it.
func (l *look) readable(in api.Instr) bool {
	switch in.Op {
	case api.OpLoad:
		return in.C != api.StepNone || l.planes[in.B].kept
	case api.OpAdd, api.OpTable:
		return l.regs[in.A].written
	case api.OpMeet:
		return l.regs[in.A].written && l.regs[in.B].written
	case api.OpKeep:
		return l.regs[in.B].written
	case api.OpEnd:
		return l.planes[in.A].kept
	}
	return true
}

func (l *look) keptTwice(in api.Instr) bool {
	return in.Op == api.OpKeep && l.planes[in.A].kept
}

// good tells whether an instruction, if it keeps a plane, keeps a number that came by the ways of that plane.
func (l *look) good(in api.Instr) bool {
	switch {
	case in.Op != api.OpKeep:
		return true
	case in.A == 0:
		return l.regs[in.B].begins()
	default:
		return l.regs[in.B].comesBy(in.A, l.code.Arrows)
	}
}

// past does what a right instruction leaves.
func (l *look) past(in api.Instr) {
	switch in.Op {
	case api.OpNone:
		l.write(in.A, register{origin: origin{kind: nothing}})
	case api.OpStart:
		l.write(in.A, register{origin: origin{kind: start}, weight: 1})
	case api.OpLoad:
		l.write(in.A, l.loaded(in.B, in.C))
	case api.OpAdd, api.OpTable:
		l.regs[in.A].weight++
		l.weigh(l.regs[in.A].weight)
	case api.OpMeet:
		l.regs[in.A].meet(l.regs[in.B], in.C)
	case api.OpKeep:
		l.planes[in.A] = plane{kept: true, weight: l.regs[in.B].weight}
	case api.OpEnd:
		l.weigh(l.planes[in.A].weight + 1)
	}
}

// loaded is a register with what a plane has, a step back or here.
func (l *look) loaded(from, step int) register {
	if step == api.StepNone {
		return register{origin: origin{kind: other}, weight: l.planes[from].weight}
	}
	return register{origin: origin{kind: load, plane: from, step: step}}
}

// write gives a register what is its own.
func (l *look) write(to int, r register) {
	r.written = true
	l.regs[to] = r
	l.weigh(r.weight)
}

// weigh notes a weight that a register has come to, or an end has.
func (l *look) weigh(weight int) { l.heaviest = max(l.heaviest, weight) }

// allKept tells whether each plane was.
func (l *look) allKept() bool {
	for _, p := range l.planes[:l.code.Planes] {
		if !p.kept {
			return false
		}
	}
	return true
}

// wide tells whether a sum of so many numbers of the code in each cell could leave those of the machine.
func wide(c api.Code, heaviest int) bool {
	most := (1 << 62) / (2*c.Most + 2) / max(heaviest, 1)
	return !allWithin(most, c.Table) || !allWithin(most, c.Consts)
}

func allWithin(most int, numbers []int) bool {
	for _, n := range numbers {
		if !within(n, -most, most) {
			return false
		}
	}
	return true
}
