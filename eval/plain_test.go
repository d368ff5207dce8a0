package eval_test

import (
	"math/big"
	"math/rand/v2"

	"helix/api"
	"helix/path"
)

// A plain reading of the chapter, with which the package is held: it has no tables, but goes forward by all paths, one column after another, with all states that a path's columns can have led to, in numbers of any size. Of chapter 11 it takes the order of paths.

// plainNumbers are those of right definitions.
func plainNumbers(l []api.Def) []*big.Int {
	var all []*big.Int
	for _, d := range l {
		v := new(big.Int)
		switch d.Op {
		case api.DefNum:
			v.SetInt64(int64(d.Num))
		case api.DefNeg:
			v.Neg(all[d.A])
		case api.DefAdd:
			v.Add(all[d.A], all[d.B])
		case api.DefSub:
			v.Sub(all[d.A], all[d.B])
		case api.DefMul:
			v.Mul(all[d.A], all[d.B])
		case api.DefMin, api.DefMax:
			v.Set(all[d.A])
			if (all[d.B].Cmp(v) < 0) == (d.Op == api.DefMin) {
				v.Set(all[d.B])
			}
		}
		all = append(all, v)
	}
	return all
}

// spot is a state, or the beginning (-1), at a cell.
type spot struct{ state, i, j int }

// said is what a recurrence says of two sequences: all values, and the best path, if there is one.
type said struct {
	values map[spot]*big.Int
	found  bool
	score  *big.Int
	path   api.Path
	equal  int // how many paths are worth as much
}

// reading is a right recurrence that is read over two sequences.
type reading struct {
	said
	r       api.Recur
	numbers []*big.Int
	x, y    []int
}

// plain reads a right recurrence over short sequences.
func plain(r api.Recur, x, y []int) said {
	g := &reading{said: said{values: map[spot]*big.Int{}}, r: r, numbers: plainNumbers(r.Defs), x: x, y: y}
	for i := range len(x) + 1 {
		for j := range len(y) + 1 {
			if !g.counts(i, j) || r.Begin == 1 && (i != 0 || j != 0) || r.Begin == 2 && j != 0 {
				continue
			}
			v := new(big.Int)
			if j > 0 {
				v.Neg(g.numbers[r.Front])
			}
			g.goOn(api.Path{I: i, J: j}, i, j, map[int]*big.Int{-1: v})
		}
	}
	return g.said
}

func (g *reading) counts(i, j int) bool {
	if i < 0 || j < 0 || i > len(g.x) || j > len(g.y) {
		return false
	}
	return !g.r.Banded || g.r.Lo <= j-i && j-i <= g.r.Hi
}

// goOn looks at a path that has come to a cell in these states, and at all that go on from it.
func (g *reading) goOn(p api.Path, i, j int, in map[int]*big.Int) {
	for state, v := range in {
		if known := g.values[spot{state, i, j}]; known == nil || v.Cmp(known) > 0 {
			g.values[spot{state, i, j}] = v
		}
	}
	g.mayBeBest(p, i, j, in)
	for kind, to := range map[int][2]int{1: {i + 1, j + 1}, 2: {i + 1, j}, 3: {i, j + 1}} {
		if !g.counts(to[0], to[1]) {
			continue
		}
		if next := g.next(kind, i, j, in); len(next) > 0 {
			q := p
			q.Columns += " MDI"[kind : kind+1]
			g.goOn(q, to[0], to[1], next)
		}
	}
}

// next are the states of a kind to which edges lead from some at a cell, each with the most that it can have.
func (g *reading) next(kind, i, j int, in map[int]*big.Int) map[int]*big.Int {
	next := map[int]*big.Int{}
	for state, s := range g.r.States {
		if s.Kind != kind {
			continue
		}
		for _, e := range s.From {
			if in[e.State] == nil {
				continue
			}
			v := new(big.Int).Set(in[e.State])
			if e.Cost != -1 {
				v.Sub(v, g.numbers[e.Cost])
			}
			if kind == 1 {
				v.Add(v, g.numbers[g.r.Subst[g.r.Letters*g.x[i]+g.y[j]]])
			}
			if next[state] == nil || v.Cmp(next[state]) > 0 {
				next[state] = v
			}
		}
	}
	return next
}

// mayBeBest holds a path against the best one so far, if it may end here.
func (g *reading) mayBeBest(p api.Path, i, j int, in map[int]*big.Int) {
	if g.r.End == 1 && i != len(g.x) || g.r.End != 3 && j != len(g.y) {
		return
	}
	var most *big.Int
	for _, v := range in {
		if most == nil || v.Cmp(most) > 0 {
			most = v
		}
	}
	if j < len(g.y) {
		most = new(big.Int).Sub(most, g.numbers[g.r.Back])
	}
	switch {
	case !g.found || most.Cmp(g.score) > 0:
		g.found, g.score, g.path, g.equal = true, most, p, 1
	case most.Cmp(g.score) == 0:
		g.equal++
		if path.Less(p, g.path) {
			g.path = p
		}
	}
}

// plainTooLong says what the chapter says of ErrTooLong, of a right recurrence and of two lengths.
func plainTooLong(r api.Recur, rows, columns int) bool {
	numbers := plainNumbers(r.Defs)
	places := append([]int{r.Front, r.Back}, r.Subst...)
	for _, s := range r.States {
		for _, e := range s.From {
			if e.Cost != -1 {
				places = append(places, e.Cost)
			}
		}
	}
	wide := big.NewInt(1)
	for _, p := range places {
		if numbers[p].CmpAbs(wide) > 0 {
			wide.Abs(numbers[p])
		}
	}
	most := new(big.Int).Lsh(big.NewInt(1), 62)
	most.Div(most, wide)
	return rows > 65536 || columns > 65536 || most.Cmp(big.NewInt(int64(rows+columns+4))) < 0
}

// maker makes recurrences, schemes and sequences of many shapes, by numbers that are the same each time.
type maker struct{ *rand.Rand }

func newMaker(seed uint64) maker { return maker{rand.New(rand.NewPCG(seed, 13))} }

// defs are some right ones, of numbers up to a size: the first one is 0 or more.
func (m maker) defs(size int) []api.Def {
	l := []api.Def{{Op: api.DefNum, Num: m.IntN(size + 1)}}
	for range m.IntN(5) {
		l = append(l, api.Def{Op: api.DefNum, Num: m.IntN(2*size+1) - size})
	}
	for range m.IntN(4) {
		d := api.Def{Op: api.DefNeg + m.IntN(6), A: m.IntN(len(l))}
		if d.Op != api.DefNeg {
			d.B = m.IntN(len(l))
		}
		if v := plainNumbers(append(l[:len(l):len(l)], d)); v[len(l)].CmpAbs(big.NewInt(1<<56)) <= 0 {
			l = append(l, d)
		}
	}
	return l
}

// places are some of definitions, or numbers of letters.
func (m maker) places(n, below int) []int {
	l := make([]int, n)
	for k := range l {
		l[k] = m.IntN(below)
	}
	return l
}

// costly are places of definitions that are 0 or more.
func (m maker) costly(l []api.Def, n int) []int {
	numbers := plainNumbers(l)
	var some []int
	for len(some) < n {
		if p := m.IntN(len(l)); numbers[p].Sign() >= 0 {
			some = append(some, p)
		}
	}
	return some
}

// recur is a right one, of numbers up to a size, with states of any kinds and edges of any sort.
func (m maker) recur(size int) api.Recur {
	r := api.Recur{Letters: 2 + m.IntN(3), Defs: m.defs(size), Begin: 1 + m.IntN(3), End: 1 + m.IntN(3)}
	r.Subst = m.places(r.Letters*r.Letters, len(r.Defs))
	ends := m.costly(r.Defs, 2)
	r.Front, r.Back = ends[0], ends[1]
	if m.IntN(2) == 0 {
		r.Banded, r.Lo, r.Hi = true, -m.IntN(4), m.IntN(4)
		if m.IntN(4) == 0 {
			r.Lo, r.Hi = r.Lo+2, r.Hi+2
		}
	}
	states, dense := min(m.IntN(12), 9), 1+m.IntN(3)
	for range states {
		s := api.State{Kind: 1 + m.IntN(3)}
		for from := -1; from < states; from++ {
			if m.IntN(4) < dense {
				s.From = append(s.From, api.Edge{State: from, Cost: m.IntN(len(r.Defs)+1) - 1})
			}
		}
		r.States = append(r.States, s)
	}
	return r
}

// scheme is a right one, of numbers up to a size.
func (m maker) scheme(size int) api.Scheme {
	s := api.Scheme{Letters: "ACGT"[:2+m.IntN(3)], Defs: m.defs(size), Mode: 1 + m.IntN(4)}
	s.Subst = m.places(len(s.Letters)*len(s.Letters), len(s.Defs))
	costs := m.costly(s.Defs, 2+2*m.IntN(5))
	s.Front, s.Back, s.Least = costs[0], costs[1], m.IntN(len(s.Defs))
	for k := 2; k < len(costs); k += 2 {
		s.Pieces = append(s.Pieces, api.Piece{Open: costs[k], Extend: costs[k+1]})
	}
	if m.IntN(2) == 0 {
		lo, hi := m.IntN(len(s.Defs)), m.IntN(len(s.Defs))
		if v := plainNumbers(s.Defs); v[lo].Cmp(v[hi]) > 0 {
			lo, hi = hi, lo
		}
		s.Banded, s.Lo, s.Hi = true, lo, hi
	}
	return s
}
