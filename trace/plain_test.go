package trace_test

import (
	"math/rand/v2"
	"slices"
	"strings"

	"helix/api"
	"helix/machine"
)

// The plain reading of R3: all paths that can be gone back by ways are laid out, each on its own, without sets, and put in order.

// spot is a plane at a cell.
type spot struct{ plane, i, j int }

// plain goes back through a table of a code.
type plain struct {
	code  api.Code
	table *machine.Table
	known map[spot][]string
}

// before is the spot that an arrow comes from.
func (s spot) before(a api.Arrow) spot {
	return spot{a.From, s.i - []int{0, 1, 1, 0}[a.Step], s.j - []int{0, 1, 0, 1}[a.Step]}
}

// texts are the columns of all paths that end at a spot, each read from its end, each once.
func (p *plain) texts(s spot) []string {
	if s.plane == 0 {
		return []string{""}
	}
	if l, is := p.known[s]; is {
		return l
	}
	var l []string
	for _, a := range p.code.Arrows {
		if a.Plane != s.plane || p.table.Mask(s.plane, s.i, s.j)&(1<<a.Bit) == 0 {
			continue
		}
		for _, ahead := range p.texts(s.before(a)) {
			l = append(l, " MDI"[a.Step:a.Step+1]+ahead)
		}
	}
	slices.Sort(l)
	p.known[s] = slices.Compact(l)
	return p.known[s]
}

// inOrder puts texts that are read from the end in R3's order: with M, D, I written as 1, 2, 3 it is that of a dictionary.
func inOrder(a, b string) int {
	digits := strings.NewReplacer("M", "1", "D", "2", "I", "3")
	return strings.Compare(digits.Replace(a), digits.Replace(b))
}

// walked is what Walk must tell of a table, and how many paths there are to choose from.
func walked(c api.Code, t *machine.Table) (api.Found, api.Errno, int) {
	score, i, j, planes, ok := t.Best()
	if !ok {
		return api.Found{}, api.ErrNoAlignment, 0
	}
	p := &plain{c, t, map[spot][]string{}}
	var all []string
	for _, plane := range planes {
		all = append(all, p.texts(spot{plane, i, j})...)
	}
	slices.SortFunc(all, inOrder)
	all = slices.Compact(all)
	columns := []byte(all[0])
	slices.Reverse(columns)
	for _, b := range columns {
		if b != 'I' {
			i--
		}
		if b != 'D' {
			j--
		}
	}
	return api.Found{Score: score, Path: api.Path{I: i, J: j, Columns: string(columns)}}, api.OK, len(all)
}

// maker makes codes that may run, and recurrences.
type maker struct{ *rand.Rand }

func newMaker(seed uint64) maker { return maker{rand.New(rand.NewPCG(seed, 18))} }

// one is one of several.
func one[T any](m maker, l ...T) T { return l[m.IntN(len(l))] }

// letters is a sequence.
func (m maker) letters(letters, long int) []int {
	var l []int
	for range long {
		l = append(l, m.IntN(letters))
	}
	return l
}

// code is one that may run; its numbers are small and few, so that many ways are worth as much.
func (m maker) code() api.Code {
	c := api.Code{Letters: 2, Planes: one(m, 1, 2, 3, 4, 5, 6, 10), Regs: 2, Lo: -65537, Hi: 65537, Most: 100}
	if m.IntN(3) == 0 {
		c.Lo = -m.IntN(4)
		c.Hi = c.Lo + m.IntN(5)
	}
	spread := one(m, 1, 1, 2, 3)
	for range 4 {
		c.Table = append(c.Table, m.IntN(spread)-m.IntN(2))
	}
	for range 4 {
		c.Consts = append(c.Consts, m.IntN(spread))
	}
	for _, plane := range m.Perm(c.Planes) {
		if plane == 0 {
			m.begins(&c)
		} else {
			m.comes(&c, plane)
		}
		m.lay(&c, api.OpKeep, plane, 0, 0)
		if m.IntN(3) > 0 {
			m.lay(&c, api.OpEnd, plane, m.IntN(4), one(m, 0, 1, 2, 3, 3, 3))
		}
	}
	m.Shuffle(len(c.Arrows), func(i, j int) { c.Arrows[i], c.Arrows[j] = c.Arrows[j], c.Arrows[i] })
	return c
}

func (m maker) lay(c *api.Code, op, a, b, n int) {
	c.Cell = append(c.Cell, api.Instr{Op: op, A: a, B: b, C: n})
}

// begins lays plane 0's starts, which may have a mask.
func (m maker) begins(c *api.Code) {
	m.lay(c, api.OpStart, 0, m.IntN(4), one(m, 0, 0, 1, 2, 3, 3))
	for range m.IntN(3) {
		m.lay(c, api.OpStart, 1, m.IntN(4), one(m, 0, 1, 2, 3))
		m.lay(c, api.OpMeet, 0, 1, m.IntN(16))
	}
}

// comes lays another plane's ways, with their arrows.
func (m maker) comes(c *api.Code, plane int) {
	m.lay(c, api.OpNone, 0, 0, 0)
	for _, bit := range m.Perm(16)[:1+m.IntN(6)] {
		a := api.Arrow{Plane: plane, Bit: bit, From: m.IntN(c.Planes), Step: 1 + m.IntN(3)}
		c.Arrows = append(c.Arrows, a)
		m.lay(c, api.OpLoad, 1, a.From, a.Step)
		m.lay(c, api.OpAdd, 1, m.IntN(4), 0)
		m.lay(c, api.OpMeet, 0, 1, bit)
	}
	if m.IntN(4) == 0 {
		m.lay(c, api.OpTable, 0, 0, 0)
	}
}

// recur is a right recurrence, of numbers alone, so small that many paths are worth as much.
func (m maker) recur() api.Recur {
	r := api.Recur{Letters: 2 + m.IntN(2), Begin: 1 + m.IntN(3), End: 1 + m.IntN(3)}
	for range 8 {
		r.Defs = append(r.Defs, api.Def{Op: api.DefNum, Num: m.IntN(3)})
	}
	for range r.Letters * r.Letters {
		r.Subst = append(r.Subst, m.IntN(8))
	}
	r.Front, r.Back = m.IntN(8), m.IntN(8)
	if m.IntN(3) == 0 {
		r.Banded, r.Lo, r.Hi = true, -m.IntN(5), m.IntN(5)
	}
	states := m.IntN(10)
	for range states {
		s := api.State{Kind: 1 + m.IntN(3)}
		for from := -1; from < states; from++ {
			if m.IntN(3) > 0 {
				s.From = append(s.From, api.Edge{State: from, Cost: m.IntN(9) - 1})
			}
		}
		r.States = append(r.States, s)
	}
	return r
}

// layer lays a recurrence as a code, in the plainest way: a plane for each state, a bit for each of its edges.
type layer struct {
	api.Code
	numbers []int
}

func (l *layer) lay(op, a, b, n int) {
	l.Cell = append(l.Cell, api.Instr{Op: op, A: a, B: b, C: n})
}

// number is the place of a constant.
func (l *layer) number(n int) int {
	if !slices.Contains(l.Consts, n) {
		l.Consts = append(l.Consts, n)
	}
	return slices.Index(l.Consts, n)
}

// laid is a recurrence, with its definitions' numbers, as a code.
func laid(r api.Recur, numbers []int) api.Code {
	l := &layer{api.Code{Letters: r.Letters, Planes: len(r.States) + 1, Regs: 2, Lo: -65536, Hi: 65536, Most: 1000}, numbers}
	if r.Banded {
		l.Lo, l.Hi = r.Lo, r.Hi
	}
	for _, place := range r.Subst {
		l.Table = append(l.Table, numbers[place])
	}
	l.lay(api.OpStart, 0, l.number(0), []int{0, api.WhereCorner, api.WhereColumn, api.WhereColumn}[r.Begin])
	if r.Begin == api.AtAny {
		l.lay(api.OpStart, 1, l.number(-numbers[r.Front]), api.WhereAny)
		l.lay(api.OpMeet, 0, 1, 0)
	}
	l.lay(api.OpKeep, 0, 0, 0)
	l.end(r, 0)
	for k, s := range r.States {
		l.state(s, k+1)
		l.end(r, k+1)
	}
	return l.Code
}

// state lays what a state's plane has.
func (l *layer) state(s api.State, plane int) {
	l.lay(api.OpNone, 0, 0, 0)
	for bit, e := range s.From {
		l.lay(api.OpLoad, 1, e.State+1, s.Kind)
		if e.Cost >= 0 {
			l.lay(api.OpAdd, 1, l.number(-l.numbers[e.Cost]), 0)
		}
		l.lay(api.OpMeet, 0, 1, bit)
		l.Arrows = append(l.Arrows, api.Arrow{Plane: plane, Bit: bit, From: e.State + 1, Step: s.Kind})
	}
	if s.Kind == api.KindMatch {
		l.lay(api.OpTable, 0, 0, 0)
	}
	l.lay(api.OpKeep, plane, 0, 0)
}

// end lays a plane's ends.
func (l *layer) end(r api.Recur, plane int) {
	l.lay(api.OpEnd, plane, l.number(0), []int{0, api.WhereCorner, api.WhereColumn, api.WhereColumn}[r.End])
	if r.End == api.AtAny {
		l.lay(api.OpEnd, plane, l.number(-l.numbers[r.Back]), api.WhereAny)
	}
}
