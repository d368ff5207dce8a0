package gen

import "helix/api"

// The registers.
const (
	best = iota // the greatest number so far, with the ways by which it came
	came        // what has come by one of these ways
	regs        // how many there are
)

// generator lays a folded recurrence as a program: the plane 0 has the beginning's numbers, and each state has a plane, with a way for each of its edges.
type generator struct {
	program
	r api.Recur
}

// planeOf is that of a state; State -1, a path's beginning, has the plane 0.
func planeOf(state int) int { return state + 1 }

// code is the one of all that was laid.
func (g *generator) code(most int) api.Code {
	c := api.Code{
		Letters: g.r.Letters, Planes: planeOf(len(g.r.States)), Regs: regs, Most: most,
		Consts: g.consts, Cell: g.cell, Arrows: g.arrows,
	}
	c.Lo, c.Hi = g.band()
	for _, place := range g.r.Subst {
		c.Table = append(c.Table, number(g.r, place))
	}
	return c
}

// band is that of the recurrence, as far as a code can say it: one past all diagonals is as good as further.
func (g *generator) band() (lo, hi int) {
	if !g.r.Banded {
		return -api.MaxLen, api.MaxLen
	}
	return within(g.r.Lo), within(g.r.Hi)
}

func within(diagonal int) int {
	return min(max(diagonal, -api.MaxLen-1), api.MaxLen+1)
}

// beginning lays the plane of the cells that paths may begin at.
func (g *generator) beginning() {
	g.lay(api.Instr{Op: api.OpNone, A: best})
	for bit, s := range sites(g.r.Begin, number(g.r, g.r.Front)) {
		g.lay(
			api.Instr{Op: api.OpStart, A: came, B: g.constant(s.worth), C: s.where},
			api.Instr{Op: api.OpMeet, A: best, B: came, C: bit},
		)
	}
	g.keep(planeOf(-1))
}

// state lays a state's plane.
func (g *generator) state(plane int, s api.State) {
	g.lay(api.Instr{Op: api.OpNone, A: best})
	for bit, e := range s.From {
		g.edge(e, api.Arrow{Plane: plane, Bit: bit, From: planeOf(e.State), Step: step(s.Kind)})
	}
	if s.Kind == api.KindMatch {
		g.lay(api.Instr{Op: api.OpTable, A: best})
	}
	g.keep(plane)
}

// edge lays an edge, whose way an arrow tells.
func (g *generator) edge(e api.Edge, way api.Arrow) {
	g.arrows = append(g.arrows, way)
	load := api.Instr{Op: api.OpLoad, A: came, B: way.From, C: way.Step}
	meet := api.Instr{Op: api.OpMeet, A: best, B: came, C: way.Bit}
	if n := cost(g.r, e); n != 0 {
		g.lay(load, api.Instr{Op: api.OpAdd, A: came, B: g.constant(-n)}, meet)
	} else {
		g.lay(load, meet)
	}
}

// keep lays that a plane has the best number, and the ends that paths have there.
func (g *generator) keep(plane int) {
	g.lay(api.Instr{Op: api.OpKeep, A: plane, B: best})
	for _, s := range sites(g.r.End, number(g.r, g.r.Back)) {
		g.lay(api.Instr{Op: api.OpEnd, A: plane, B: g.constant(s.worth), C: s.where})
	}
}

// site is some cells that paths may begin, or end, at, and what that is worth there.
type site struct{ where, worth int }

// sites are those of a recurrence's Begin or End. Off the outermost column a price is taken; a cell there is of both sites, but the price is never below 0, so that the greater number is the right one.
func sites(at, price int) []site {
	switch {
	case at == api.AtCorner:
		return []site{{where: api.WhereCorner}}
	case at == api.AtSide:
		return []site{{where: api.WhereColumn}}
	case price == 0:
		return []site{{where: api.WhereAny}}
	}
	return []site{{where: api.WhereColumn}, {where: api.WhereAny, worth: -price}}
}

// step is the one back that a column of a kind takes.
func step(kind int) int {
	switch kind {
	case api.KindMatch:
		return api.StepM
	case api.KindDelete:
		return api.StepD
	}
	return api.StepI
}
