package verify_test

import (
	"math/big"
	"math/rand/v2"
	"slices"

	"helix/api"
)

// The plain reading of the chapter: each question about an instruction is answered by looking back over all that stand ahead of it.

// plainRight is chapter 15's.
func plainRight(c api.Code) bool {
	from := func(low, high int, l ...int) bool {
		return len(l) == 0 || slices.Min(l) >= low && slices.Max(l) <= high
	}
	if !from(2, 20, c.Letters) || !from(1, 10, c.Planes) || !from(1, 16, c.Regs) || !from(0, 65536, c.Most) || !from(-65537, 65537, c.Lo, c.Hi) || c.Lo > c.Hi {
		return false
	}
	if len(c.Table) != c.Letters*c.Letters || len(c.Consts) > 100 || len(c.Cell) > 1000 || len(c.Arrows) > 160 || !from(-1<<60, 1<<60, append(slices.Clone(c.Table), c.Consts...)...) {
		return false
	}
	for _, in := range c.Cell {
		if !from(1, 8, in.Op) || !from(0, 65535, in.A, in.B, in.C) {
			return false
		}
	}
	for _, a := range c.Arrows {
		if !from(0, 65535, a.Plane, a.Bit, a.From, a.Step) {
			return false
		}
	}
	return true
}

// plain is a right code that is looked at.
type plain struct {
	api.Code
	weights map[[2]int]int
}

// wroteAt is the last place ahead of k where a register was written, or -1.
func (p *plain) wroteAt(k, r int) int {
	for k--; k >= 0; k-- {
		if in := p.Cell[k]; in.A == r && in.Op <= api.OpLoad {
			return k
		}
	}
	return -1
}

// keptAt is the place ahead of k where a plane was kept, or -1.
func (p *plain) keptAt(k, plane int) int {
	for k--; k >= 0; k-- {
		if in := p.Cell[k]; in.A == plane && in.Op == api.OpKeep {
			return k
		}
	}
	return -1
}

// origin is a register's ahead of k, in words and numbers.
func (p *plain) origin(k, r int) (string, int, int) {
	in := p.Cell[p.wroteAt(k, r)]
	switch {
	case in.Op == api.OpNone:
		return "nothing", 0, 0
	case in.Op == api.OpStart:
		return "a start", 0, 0
	case in.C > 0:
		return "a load", in.B, in.C
	}
	return "other", 0, 0
}

// meets are the places ahead of k where a register met others since it was written.
func (p *plain) meets(k, r int) []int {
	var l []int
	for m := p.wroteAt(k, r) + 1; m < k; m++ {
		if p.Cell[m].Op == api.OpMeet && p.Cell[m].A == r {
			l = append(l, m)
		}
	}
	return l
}

// metOrigin is the origin of the way that a meeting at m adds.
func (p *plain) metOrigin(m int) (string, int, int) {
	if b := p.Cell[m].B; len(p.meets(m, b)) == 0 {
		return p.origin(m, b)
	}
	return "other", 0, 0
}

// good tells whether the OpKeep at k is.
func (p *plain) good(k int) bool {
	plane, r := p.Cell[k].A, p.Cell[k].B
	own, _, _ := p.origin(k, r)
	if own != "nothing" && (own != "a start" || plane != 0) {
		return false
	}
	for _, m := range p.meets(k, r) {
		kind, from, step := p.metOrigin(m)
		if plane == 0 && kind != "nothing" && kind != "a start" {
			return false
		}
		if plane > 0 && (kind != "a load" || !slices.Contains(p.Arrows, api.Arrow{Plane: plane, Bit: p.Cell[m].C, From: from, Step: step})) {
			return false
		}
	}
	return true
}

// weight is a register's ahead of k; kept ones are remembered, since meetings ask for many again and again.
func (p *plain) weight(k, r int) int {
	if w, known := p.weights[[2]int{k, r}]; known {
		return w
	}
	at := p.wroteAt(k, r)
	w := 0
	switch in := p.Cell[at]; {
	case in.Op == api.OpStart:
		w = 1
	case in.Op == api.OpLoad && in.C == 0:
		kept := p.keptAt(at, in.B)
		w = p.weight(kept, p.Cell[kept].B)
	}
	for m := at + 1; m < k; m++ {
		switch in := p.Cell[m]; {
		case in.A != r:
		case in.Op == api.OpAdd || in.Op == api.OpTable:
			w++
		case in.Op == api.OpMeet && in.B != r:
			w = max(w, p.weight(m, in.B))
		}
	}
	p.weights[[2]int{k, r}] = w
	return w
}

// heaviest is W, of a code none of whose instructions is wrong.
func (p *plain) heaviest() int {
	w := 1
	for k := range len(p.Cell) + 1 {
		for r := range p.Regs {
			if p.wroteAt(k, r) >= 0 {
				w = max(w, p.weight(k, r))
			}
		}
		if k < len(p.Cell) && p.Cell[k].Op == api.OpEnd {
			kept := p.keptAt(k, p.Cell[k].A)
			w = max(w, p.weight(kept, p.Cell[kept].B)+1)
		}
	}
	return w
}

// widest is the greatest number that such a code may have.
func (p *plain) widest() *big.Int {
	n := new(big.Int).Lsh(big.NewInt(1), 62)
	n.Quo(n, big.NewInt(int64(2*p.Most+2)))
	return n.Quo(n, big.NewInt(int64(p.heaviest())))
}

// fields are how many of each there are, of what an instruction's A, B, C name, by its Op: of Registers, Planes, Constants, Wheres and steps, Bits, nothing (0).
const fields = "R00 RCW RPW RC0 R00 RRB PR0 PCW"

// named tells whether all that the instruction at k names is there.
func (p *plain) named(k int) bool {
	in := p.Cell[k]
	many := map[byte]int{'R': p.Regs, 'P': p.Planes, 'C': len(p.Consts), 'W': 4, 'B': 16, '0': 1}
	at := 4 * (in.Op - 1)
	return in.A < many[fields[at]] && in.B < many[fields[at+1]] && in.C < many[fields[at+2]]
}

// readable tells whether all that the instruction at k reads was written or kept.
func (p *plain) readable(k int) bool {
	in := p.Cell[k]
	a, b := p.wroteAt(k, in.A) >= 0, p.wroteAt(k, in.B) >= 0
	switch in.Op {
	case api.OpLoad:
		return in.C > 0 || p.keptAt(k, in.B) >= 0
	case api.OpAdd, api.OpTable:
		return a
	case api.OpMeet:
		return a && b
	case api.OpKeep:
		return b
	case api.OpEnd:
		return p.keptAt(k, in.A) >= 0
	}
	return true
}

// wrong tells what is wrong with the instruction at k, if nothing is with those ahead.
func (p *plain) wrong(k int) api.Errno {
	keep := p.Cell[k].Op == api.OpKeep
	switch {
	case !p.named(k):
		return api.ErrVerifyRef
	case !p.readable(k):
		return api.ErrVerifyUse
	case keep && p.keptAt(k, p.Cell[k].A) >= 0:
		return api.ErrVerifyStore
	case keep && !p.good(k):
		return api.ErrVerifyWay
	}
	return api.OK
}

// plainArrows tells whether the arrows are as V1 asks.
func plainArrows(c api.Code) bool {
	for k, a := range c.Arrows {
		if a.Plane < 1 || a.Plane >= c.Planes || a.Bit > 15 || a.From >= c.Planes || a.Step < 1 || a.Step > 3 {
			return false
		}
		for _, b := range c.Arrows[k+1:] {
			if a.Plane == b.Plane && a.Bit == b.Bit {
				return false
			}
		}
	}
	return true
}

// plainCheck is V1.
func plainCheck(c api.Code) (int, api.Errno) {
	if !plainRight(c) {
		return -1, api.ErrVerifyForm
	}
	if !plainArrows(c) {
		return -1, api.ErrVerifyWay
	}
	p := &plain{c, map[[2]int]int{}}
	for k := range c.Cell {
		if e := p.wrong(k); e != api.OK {
			return k, e
		}
	}
	for plane := range c.Planes {
		if p.keptAt(len(c.Cell), plane) < 0 {
			return -1, api.ErrVerifyStore
		}
	}
	widest := p.widest()
	for _, n := range append(slices.Clone(c.Table), c.Consts...) {
		if big.NewInt(int64(n)).CmpAbs(widest) > 0 {
			return -1, api.ErrVerifyWide
		}
	}
	return -1, api.OK
}

// plainUsed is V2: each register is asked for.
func plainUsed(c api.Code, at int) ([]int, api.Errno) {
	if !plainRight(c) {
		return nil, api.ErrVerifyForm
	}
	if at < 0 || at > len(c.Cell) {
		return nil, api.ErrArg
	}
	p := &plain{c, nil}
	var l []int
	for r := range c.Regs {
		if p.wroteAt(at, r) >= 0 {
			l = append(l, r)
		}
	}
	return l, api.OK
}

// maker makes codes of many shapes.
type maker struct{ *rand.Rand }

func newMaker(seed uint64) maker { return maker{rand.New(rand.NewPCG(seed, 16))} }

// one is one of several.
func one[T any](m maker, l ...T) T { return l[m.IntN(len(l))] }

// code is one that may run, but for its numbers, which may be too great.
func (m maker) code() api.Code {
	c := api.Code{Letters: 2, Planes: 1 + m.IntN(4), Regs: 2 + m.IntN(3), Hi: m.IntN(3), Most: one(m, 0, 1, 5, 100, 65536), Table: []int{1, -1, -1, 1}}
	if m.IntN(10) == 0 {
		c.Planes, c.Regs = 10, 16
	}
	for range 1 + m.IntN(3) {
		c.Consts = append(c.Consts, m.IntN(9)-4)
	}
	for n, plane := range m.Perm(c.Planes) {
		to := m.IntN(c.Regs)
		if plane == 0 {
			m.begins(&c, to)
		} else {
			m.comes(&c, plane, to)
		}
		m.lay(&c, api.OpKeep, plane, to, 0)
		for range m.IntN(2) {
			m.lay(&c, api.OpEnd, plane, m.IntN(len(c.Consts)), m.IntN(4))
		}
		if n > 0 && m.IntN(3) == 0 { // one that was kept is read here, for nothing
			m.lay(&c, api.OpLoad, m.IntN(c.Regs), plane, 0)
		}
	}
	if m.IntN(3) == 0 {
		m.Shuffle(len(c.Arrows), func(i, j int) { c.Arrows[i], c.Arrows[j] = c.Arrows[j], c.Arrows[i] })
	}
	return c
}

func (m maker) lay(c *api.Code, op, a, b, n int) {
	c.Cell = append(c.Cell, api.Instr{Op: op, A: a, B: b, C: n})
}

// beside is a register that is not another one.
func (m maker) beside(c *api.Code, not int) int { return (not + 1 + m.IntN(c.Regs-1)) % c.Regs }

// grow adds numbers to a register.
func (m maker) grow(c *api.Code, r int) {
	for range m.IntN(1 + m.IntN(4)) {
		if m.IntN(2) == 0 {
			m.lay(c, api.OpAdd, r, m.IntN(len(c.Consts)), 0)
		} else {
			m.lay(c, api.OpTable, r, 0, 0)
		}
	}
}

// write lays a beginning into a register.
func (m maker) write(c *api.Code, r int) {
	if m.IntN(3) == 0 {
		m.lay(c, api.OpNone, r, 0, 0)
	} else {
		m.lay(c, api.OpStart, r, m.IntN(len(c.Consts)), m.IntN(4))
	}
}

// begins lays what the plane 0 may keep.
func (m maker) begins(c *api.Code, to int) {
	m.write(c, to)
	for range m.IntN(3) {
		m.grow(c, to)
		s := m.beside(c, to)
		m.write(c, s)
		m.grow(c, s)
		m.lay(c, api.OpMeet, to, s, m.IntN(16))
	}
}

// comes lays what another plane may keep, with its arrows.
func (m maker) comes(c *api.Code, plane, to int) {
	m.lay(c, api.OpNone, to, 0, 0)
	for _, bit := range m.Perm(16)[:m.IntN(4)] {
		a := api.Arrow{Plane: plane, Bit: bit, From: m.IntN(c.Planes), Step: 1 + m.IntN(3)}
		c.Arrows = append(c.Arrows, a)
		for range 1 + m.IntN(2) {
			s := m.beside(c, to)
			m.lay(c, api.OpLoad, s, a.From, a.Step)
			m.grow(c, s)
			m.lay(c, api.OpMeet, to, s, bit)
			m.grow(c, to)
		}
	}
}

// widen gives a code that may run numbers about the greatest that it may have.
func (m maker) widen(c api.Code) {
	widest := (&plain{c, map[[2]int]int{}}).widest()
	if !widest.IsInt64() || widest.Int64() >= 1<<60 {
		return
	}
	n := (int(widest.Int64()) + m.IntN(3) - 1) * one(m, -1, 1)
	if l := one(m, c.Table, c.Consts); len(l) > 0 {
		l[m.IntN(len(l))] = n
	}
}

// turn changes something of a code.
func (m maker) turn(c *api.Code) {
	small := func() int { return m.IntN(one(m, 2, 3, 4, 5, 17)) }
	if len(c.Cell) == 0 || m.IntN(8) == 0 {
		if len(c.Arrows) > 0 {
			a := &c.Arrows[m.IntN(len(c.Arrows))]
			*one(m, &a.Plane, &a.Bit, &a.From, &a.Step) = small()
		}
		return
	}
	k := m.IntN(len(c.Cell))
	in := &c.Cell[k]
	switch m.IntN(9) {
	case 0:
		c.Cell = slices.Delete(c.Cell, k, k+1)
	case 1:
		c.Cell = slices.Insert(c.Cell, k, c.Cell[m.IntN(len(c.Cell))])
	case 2:
		j := m.IntN(len(c.Cell))
		c.Cell[k], c.Cell[j] = c.Cell[j], c.Cell[k]
	case 3:
		in.Op = 1 + m.IntN(8)
	case 4:
		c.Cell = slices.Insert(c.Cell, k, api.Instr{Op: 1 + m.IntN(8), A: m.IntN(c.Regs), B: m.IntN(3), C: m.IntN(2)})
	case 5:
		*one(m, &c.Planes, &c.Regs) = 1 + m.IntN(5)
	default:
		*one(m, &in.A, &in.B, &in.C) = small()
	}
}
