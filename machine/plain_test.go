package machine_test

import (
	"cmp"
	"math/big"
	"math/rand/v2"
	"slices"

	"helix/api"
)

// The plain reading of the chapter: what a cell's planes have is asked for, and that asks for the cells one step back; numbers are of any size.

// thing is what a register or a plane has; n is nil where it is nothing.
type thing struct {
	n    *big.Int
	mask int
}

// ending is one that a plane has at a cell.
type ending struct {
	plane, i, j int
	score       *big.Int
}

// plain is a code that may run, over two sequences.
type plain struct {
	api.Code
	x, y   []int
	kept   map[[2]int]map[int]thing
	ends   []ending
	widest *big.Int // the greatest number, without its sign, that anything had
}

// plainRun asks for all cells, the last ones first, so that it does not lean on their order.
func plainRun(c api.Code, x, y []int) *plain {
	p := &plain{c, x, y, map[[2]int]map[int]thing{}, nil, new(big.Int)}
	for i := len(x); i >= 0; i-- {
		for j := len(y); j >= 0; j-- {
			p.planesAt(i, j)
		}
	}
	return p
}

// runs tells whether there is such a cell, and whether it is run.
func (p *plain) runs(i, j int) bool {
	return i >= 0 && i <= len(p.x) && j >= 0 && j <= len(p.y) && j-i >= p.Lo && j-i <= p.Hi
}

// cells is how many are run.
func (p *plain) cells() int {
	n := 0
	for i := range len(p.x) + 1 {
		for j := range len(p.y) + 1 {
			if p.runs(i, j) {
				n++
			}
		}
	}
	return n
}

// planesAt is what all planes have at a cell.
func (p *plain) planesAt(i, j int) map[int]thing {
	if !p.runs(i, j) {
		return nil
	}
	at := [2]int{i, j}
	if here, known := p.kept[at]; known {
		return here
	}
	here, regs := map[int]thing{}, map[int]thing{}
	for _, in := range p.Cell {
		p.do(in, i, j, regs, here)
		for _, r := range regs {
			p.note(r.n)
		}
	}
	p.kept[at] = here
	return here
}

// note looks whether a number is the widest.
func (p *plain) note(n *big.Int) {
	if n != nil && n.CmpAbs(p.widest) > 0 {
		p.widest = new(big.Int).Abs(n)
	}
}

// met tells whether (i, j) meets a where, of a row and a column.
func met(where, i, j, row, column int) bool {
	if (where == 1 || where == 3) && i != row {
		return false
	}
	if (where == 2 || where == 3) && j != column {
		return false
	}
	return true
}

func sum(n *big.Int, k int) *big.Int { return new(big.Int).Add(n, big.NewInt(int64(k))) }

// do does one instruction at a cell.
func (p *plain) do(in api.Instr, i, j int, regs, here map[int]thing) {
	a := regs[in.A]
	switch in.Op {
	case 1:
		regs[in.A] = thing{}
	case 2:
		regs[in.A] = thing{}
		if met(in.C, i, j, 0, 0) {
			regs[in.A] = thing{n: big.NewInt(int64(p.Consts[in.B]))}
		}
	case 3:
		from := [][2]int{{i, j}, {i - 1, j - 1}, {i - 1, j}, {i, j - 1}}[in.C]
		if in.C == 0 {
			regs[in.A] = thing{n: here[in.B].n}
		} else {
			regs[in.A] = thing{n: p.planesAt(from[0], from[1])[in.B].n}
		}
	case 4:
		if a.n != nil {
			regs[in.A] = thing{sum(a.n, p.Consts[in.B]), a.mask}
		}
	case 5:
		if i == 0 || j == 0 {
			regs[in.A] = thing{nil, a.mask}
		} else if a.n != nil {
			regs[in.A] = thing{sum(a.n, p.Table[p.x[i-1]*p.Letters+p.y[j-1]]), a.mask}
		}
	case 6:
		b := regs[in.B]
		if b.n != nil && (a.n == nil || a.n.Cmp(b.n) < 0) {
			regs[in.A] = thing{b.n, 1 << in.C}
		} else if b.n != nil && a.n.Cmp(b.n) == 0 {
			regs[in.A] = thing{a.n, a.mask | 1<<in.C}
		}
	case 7:
		here[in.A] = regs[in.B]
		if regs[in.B].n == nil {
			here[in.A] = thing{}
		}
	case 8:
		if n := here[in.A].n; n != nil && met(in.C, i, j, len(p.x), len(p.y)) {
			p.ends = append(p.ends, ending{in.A, i, j, sum(n, p.Consts[in.B])})
			p.note(p.ends[len(p.ends)-1].score)
		}
	}
}

// best is M3: the ends are put in order, and the first one and its like are told.
func (p *plain) best() (score, i, j int, planes []int, ok bool) {
	if len(p.ends) == 0 {
		return 0, 0, 0, nil, false
	}
	slices.SortFunc(p.ends, func(a, b ending) int {
		return cmp.Or(b.score.Cmp(a.score), cmp.Compare(a.i, b.i), cmp.Compare(a.j, b.j), cmp.Compare(a.plane, b.plane))
	})
	first := p.ends[0]
	for _, e := range p.ends {
		if e.score.Cmp(first.score) == 0 && e.i == first.i && e.j == first.j {
			planes = append(planes, e.plane)
		}
	}
	return int(first.score.Int64()), first.i, first.j, slices.Compact(planes), true
}

// maker makes codes of many shapes that may run.
type maker struct{ *rand.Rand }

func newMaker(seed uint64) maker { return maker{rand.New(rand.NewPCG(seed, 17))} }

// one is one of several.
func one[T any](m maker, l ...T) T { return l[m.IntN(len(l))] }

// letters is a sequence.
func (m maker) letters(c api.Code, long int) []int {
	var l []int
	for range long {
		l = append(l, m.IntN(c.Letters))
	}
	return l
}

// code is one that may run; its numbers are small, so that many are alike.
func (m maker) code() api.Code {
	c := api.Code{Letters: one(m, 2, 2, 3, 4, 20), Planes: 1 + m.IntN(5), Regs: 2 + m.IntN(4), Most: one(m, 6, 7, 100, 65536)}
	if m.IntN(10) == 0 {
		c.Planes, c.Regs = 10, 16
	}
	m.band(&c)
	for range c.Letters * c.Letters {
		c.Table = append(c.Table, m.IntN(5)-2)
	}
	for range 1 + m.IntN(4) {
		c.Consts = append(c.Consts, m.IntN(4)-2)
	}
	for _, plane := range m.Perm(c.Planes) {
		to := m.IntN(c.Regs)
		if plane == 0 {
			m.begins(&c, to)
		} else {
			m.comes(&c, plane, to)
		}
		m.lay(&c, api.OpKeep, plane, to, 0)
		m.grow(&c, to)
		m.behind(&c, plane)
	}
	m.Shuffle(len(c.Arrows), func(i, j int) { c.Arrows[i], c.Arrows[j] = c.Arrows[j], c.Arrows[i] })
	return c
}

// band gives a code one: as wide as can be, narrow, or off the cells.
func (m maker) band(c *api.Code) {
	c.Lo, c.Hi = -65537, 65537
	switch m.IntN(6) {
	case 0, 1:
		c.Lo, c.Hi = -m.IntN(4), m.IntN(4)
	case 2:
		c.Lo = m.IntN(9) - 4
		c.Hi = c.Lo + m.IntN(4)
	case 3:
		*one(m, &c.Lo, &c.Hi) = m.IntN(5) - 2
	}
}

// behind lays what may stand behind a plane's OpKeep: ends of it, and what is read here.
func (m maker) behind(c *api.Code, plane int) {
	for range one(m, 0, 0, 1, 1, 2) {
		m.lay(c, api.OpEnd, plane, m.IntN(len(c.Consts)), one(m, 0, 0, 1, 2, 3))
	}
	if m.IntN(3) == 0 {
		r := m.IntN(c.Regs)
		m.lay(c, api.OpLoad, r, plane, 0)
		m.grow(c, r)
		m.lay(c, api.OpMeet, r, r, m.IntN(16))
	}
}

func (m maker) lay(c *api.Code, op, a, b, n int) {
	c.Cell = append(c.Cell, api.Instr{Op: op, A: a, B: b, C: n})
}

// beside is a register that is not another one.
func (m maker) beside(c *api.Code, not int) int { return (not + 1 + m.IntN(c.Regs-1)) % c.Regs }

// grow adds numbers to a register.
func (m maker) grow(c *api.Code, r int) {
	for range m.IntN(1 + m.IntN(3)) {
		if m.IntN(4) > 0 {
			m.lay(c, api.OpAdd, r, m.IntN(len(c.Consts)), 0)
		} else {
			m.lay(c, api.OpTable, r, 0, 0)
		}
	}
}

// write lays a beginning into a register.
func (m maker) write(c *api.Code, r int) {
	if m.IntN(3) == 0 {
		m.lay(c, api.OpNone, r, 0, 0)
	} else {
		m.lay(c, api.OpStart, r, m.IntN(len(c.Consts)), one(m, 0, 0, 1, 2, 3))
	}
}

// begins lays what the plane 0 may keep.
func (m maker) begins(c *api.Code, to int) {
	m.write(c, to)
	if m.IntN(3) == 0 {
		m.lay(c, api.OpMeet, to, to, m.IntN(16))
	}
	for range m.IntN(3) {
		m.grow(c, to)
		s := m.beside(c, to)
		m.write(c, s)
		m.grow(c, s)
		m.lay(c, api.OpMeet, to, s, m.IntN(16))
	}
}

// comes lays what another plane may keep, with its arrows.
func (m maker) comes(c *api.Code, plane, to int) {
	m.lay(c, api.OpNone, to, 0, 0)
	for _, bit := range m.Perm(16)[:1+m.IntN(4)] {
		a := api.Arrow{Plane: plane, Bit: bit, From: m.IntN(c.Planes), Step: 1 + m.IntN(3)}
		if m.IntN(3) == 0 {
			a.From = 0
		}
		c.Arrows = append(c.Arrows, a)
		for range one(m, 1, 1, 2) {
			s := m.beside(c, to)
			m.lay(c, api.OpLoad, s, a.From, a.Step)
			m.grow(c, s)
			m.lay(c, api.OpMeet, to, s, bit)
		}
	}
	m.grow(c, to)
}
