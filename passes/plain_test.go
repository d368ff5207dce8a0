package passes_test

import (
	"math/big"
	"math/rand/v2"
	"slices"

	"helix/api"
)

// A plain reading of the chapter, with which the package is held: it knows neither the package nor those that it stands on. Edges stand in a table of all that there may be, gaps are held against each other at single lengths, numbers have any size.

// plainNumbers are those of right definitions.
func plainNumbers(l []api.Def) []*big.Int {
	var all []*big.Int
	for _, d := range l {
		v := new(big.Int)
		switch d.Op {
		case api.DefNum:
			v.SetInt64(int64(d.Num))
		case api.DefNeg:
			v.Neg(all[d.A])
		case api.DefAdd:
			v.Add(all[d.A], all[d.B])
		case api.DefSub:
			v.Sub(all[d.A], all[d.B])
		case api.DefMul:
			v.Mul(all[d.A], all[d.B])
		case api.DefMin, api.DefMax:
			v.Set(all[d.A])
			if (all[d.B].Cmp(v) < 0) == (d.Op == api.DefMin) {
				v.Set(all[d.B])
			}
		}
		all = append(all, v)
	}
	return all
}

// copied has memory of its own.
func copied(r api.Recur) api.Recur {
	r.Defs, r.Subst, r.States = slices.Clone(r.Defs), slices.Clone(r.Subst), slices.Clone(r.States)
	for k := range r.States {
		r.States[k].From = slices.Clone(r.States[k].From)
	}
	return r
}

// plainFold is P14.1.
func plainFold(r api.Recur) api.Recur {
	numbers := plainNumbers(r.Defs)
	used := map[int]bool{int(numbers[r.Front].Int64()): true, int(numbers[r.Back].Int64()): true}
	for _, p := range r.Subst {
		used[int(numbers[p].Int64())] = true
	}
	for _, s := range r.States {
		for _, e := range s.From {
			if e.Cost != -1 {
				used[int(numbers[e.Cost].Int64())] = true
			}
		}
	}
	// A number's new place is how many lesser ones there are.
	renewed := func(place int) int {
		n := int(numbers[place].Int64())
		lesser := 0
		for v := range used {
			if v < n {
				lesser++
			}
		}
		return lesser
	}
	f := copied(r)
	f.Defs = make([]api.Def, len(used))
	for v := range used {
		lesser := 0
		for u := range used {
			if u < v {
				lesser++
			}
		}
		f.Defs[lesser] = api.Def{Op: 1, Num: v}
	}
	f.Front, f.Back = renewed(r.Front), renewed(r.Back)
	for k, p := range r.Subst {
		f.Subst[k] = renewed(p)
	}
	for k, s := range r.States {
		for l, e := range s.From {
			if e.Cost != -1 {
				f.States[k].From[l].Cost = renewed(e.Cost)
			}
		}
	}
	return f
}

// plainWithout is a recurrence without the states that are not to be kept.
func plainWithout(r api.Recur, kept func(state int) bool) api.Recur {
	number := map[int]int{-1: -1}
	for k := range r.States {
		if kept(k) {
			number[k] = len(number) - 1
		}
	}
	w := copied(r)
	w.States = nil
	for k, s := range r.States {
		if !kept(k) {
			continue
		}
		state := api.State{Kind: s.Kind}
		for _, e := range s.From {
			if to, ok := number[e.State]; ok {
				state.From = append(state.From, api.Edge{State: to, Cost: e.Cost})
			}
		}
		w.States = append(w.States, state)
	}
	return w
}

// table has for each two states, from (or -1) and to, the cost of the edge in numbers, if there is one.
type table map[[2]int]*big.Int

func tableOf(r api.Recur) table {
	numbers := plainNumbers(r.Defs)
	t := table{}
	for to, s := range r.States {
		for _, e := range s.From {
			t[[2]int{e.State, to}] = new(big.Int)
			if e.Cost != -1 {
				t[[2]int{e.State, to}].Set(numbers[e.Cost])
			}
		}
	}
	return t
}

// plainGap tells a gap state's opening and going on, nil if the state is none.
func (t table) plainGap(r api.Recur, s int) (opening, goingOn *big.Int) {
	if r.States[s].Kind == 1 || t[[2]int{s, s}] == nil {
		return nil, nil
	}
	for from := -1; from < len(r.States); from++ {
		cost := t[[2]int{from, s}]
		if from == s || cost == nil {
			continue
		}
		if opening != nil && opening.Cmp(cost) != 0 {
			return nil, nil
		}
		opening = cost
	}
	return opening, t[[2]int{s, s}]
}

// plainTwins says whether two states are twins.
func (t table) plainTwins(r api.Recur, a, b int) bool {
	first, _ := t.plainGap(r, a)
	second, _ := t.plainGap(r, b)
	if a == b || first == nil || second == nil || r.States[a].Kind != r.States[b].Kind {
		return false
	}
	if t[[2]int{a, b}] != nil || t[[2]int{b, a}] != nil {
		return false
	}
	for other := -1; other < len(r.States); other++ {
		if other == a || other == b {
			continue
		}
		if (t[[2]int{other, a}] == nil) != (t[[2]int{other, b}] == nil) {
			return false
		}
		of, to := t[[2]int{a, other}], t[[2]int{b, other}]
		if (of == nil) != (to == nil) || of != nil && of.Cmp(to) != 0 {
			return false
		}
	}
	return true
}

// plainLine is opening + n going on.
func plainLine(opening, goingOn, n *big.Int) *big.Int {
	v := new(big.Int).Mul(goingOn, n)
	return v.Add(v, opening)
}

// plainNeverBest says whether there is for each length a twin that costs at most as much. Two lines cross once at most: if there is a length for which none does, there is one at the front, about a crossing, or far behind all.
func (t table) plainNeverBest(r api.Recur, s int) bool {
	opening, goingOn := t.plainGap(r, s)
	if opening == nil {
		return false
	}
	var twins [][2]*big.Int
	for k := range r.States {
		if t.plainTwins(r, s, k) {
			o, g := t.plainGap(r, k)
			twins = append(twins, [2]*big.Int{o, g})
		}
	}
	lengths := []*big.Int{new(big.Int), new(big.Int).Lsh(big.NewInt(1), 80)}
	for _, w := range twins {
		more, less := new(big.Int).Sub(w[0], opening), new(big.Int).Sub(goingOn, w[1])
		if less.Sign() == 0 {
			continue
		}
		at := more.Quo(more, less)
		for d := int64(-2); d <= 2; d++ {
			lengths = append(lengths, new(big.Int).Add(at, big.NewInt(d)))
		}
	}
	for _, n := range lengths {
		if n.Sign() < 0 {
			continue
		}
		own := plainLine(opening, goingOn, n)
		if !slices.ContainsFunc(twins, func(w [2]*big.Int) bool { return plainLine(w[0], w[1], n).Cmp(own) <= 0 }) {
			return false
		}
	}
	return true
}

// plainPrune is P14.2.
func plainPrune(r api.Recur) api.Recur {
	r = copied(r)
	for s := len(r.States) - 1; s >= 0; s-- {
		if tableOf(r).plainNeverBest(r, s) {
			r = plainWithout(r, func(k int) bool { return k != s })
		}
	}
	return r
}

// plainDrop is P14.3: what can be come to is what a chain of edges leads to from the beginning.
func plainDrop(r api.Recur) api.Recur {
	t := tableOf(r)
	may := map[int]bool{}
	var come func(to int)
	come = func(to int) {
		if may[to] || r.Banded && r.Lo == r.Hi && r.States[to].Kind != 1 {
			return
		}
		may[to] = true
		for next := range r.States {
			if t[[2]int{to, next}] != nil {
				come(next)
			}
		}
	}
	for first := range r.States {
		if t[[2]int{-1, first}] != nil {
			come(first)
		}
	}
	return plainWithout(r, func(k int) bool { return may[k] })
}

// plainClamp is P14.4.
func plainClamp(r api.Recur) api.Recur {
	r = copied(r)
	if !r.Banded {
		return r
	}
	if r.Lo > 65536 {
		r.Lo, r.Hi = 65537, 65537
		return r
	}
	if r.Hi < -65536 {
		r.Lo, r.Hi = -65537, -65537
		return r
	}
	if r.Lo < -65536 {
		r.Lo = -65536
	}
	if r.Hi > 65536 {
		r.Hi = 65536
	}
	if r.Lo == -65536 && r.Hi == 65536 {
		r.Banded, r.Lo, r.Hi = false, 0, 0
	}
	return r
}

// plainAll is P14.5.
func plainAll(r api.Recur) api.Recur { return plainClamp(plainDrop(plainPrune(plainFold(r)))) }

// maker makes recurrences, schemes and sequences of many shapes, by numbers that are the same each time.
type maker struct{ *rand.Rand }

func newMaker(seed uint64) maker { return maker{rand.New(rand.NewPCG(seed, 14))} }

// defs are some right ones, of numbers up to a size: the first one is 0 or more.
func (m maker) defs(size int) []api.Def {
	l := []api.Def{{Op: api.DefNum, Num: m.IntN(size + 1)}}
	for range 1 + m.IntN(8) {
		l = append(l, api.Def{Op: api.DefNum, Num: m.IntN(2*size+1) - size})
	}
	for range m.IntN(5) {
		d := api.Def{Op: api.DefNeg + m.IntN(6), A: m.IntN(len(l))}
		if d.Op != api.DefNeg {
			d.B = m.IntN(len(l))
		}
		if v := plainNumbers(append(l[:len(l):len(l)], d)); v[len(l)].CmpAbs(big.NewInt(1<<56)) <= 0 {
			l = append(l, d)
		}
	}
	return l
}

// places are some of definitions, or numbers of letters.
func (m maker) places(n, below int) []int {
	l := make([]int, n)
	for k := range l {
		l[k] = m.IntN(below)
	}
	return l
}

// costly are places of definitions that are 0 or more.
func (m maker) costly(l []api.Def, n int) []int {
	numbers := plainNumbers(l)
	var some []int
	for len(some) < n {
		if p := m.IntN(len(l)); numbers[p].Sign() >= 0 {
			some = append(some, p)
		}
	}
	return some
}

// bare is a right recurrence without states.
func (m maker) bare(size int) api.Recur {
	r := api.Recur{Letters: 2 + m.IntN(3), Defs: m.defs(size), Begin: 1 + m.IntN(3), End: 1 + m.IntN(3)}
	r.Subst = m.places(r.Letters*r.Letters, len(r.Defs))
	ends := m.costly(r.Defs, 2)
	r.Front, r.Back = ends[0], ends[1]
	if m.IntN(2) == 0 {
		r.Banded, r.Lo = true, m.IntN(5)-3
		r.Hi = r.Lo + m.IntN(5)
		if m.IntN(4) == 0 {
			r.Lo -= 65530 + m.IntN(12)
		}
		if m.IntN(4) == 0 {
			r.Hi += 65530 + m.IntN(12)
		}
	}
	return r
}

// cost is any, or none.
func (m maker) cost(r *api.Recur) int { return m.IntN(len(r.Defs)+1) - 1 }

// wild is a right recurrence with states of any kinds and edges of any sort.
func (m maker) wild(size int) api.Recur {
	r := m.bare(size)
	states, dense := min(m.IntN(12), 9), 1+m.IntN(4)
	for range states {
		s := api.State{Kind: 1 + m.IntN(3)}
		for from := -1; from < states; from++ {
			if m.IntN(5) < dense {
				s.From = append(s.From, api.Edge{State: from, Cost: m.cost(&r)})
			}
		}
		r.States = append(r.States, s)
	}
	return r
}

// twinned is a right recurrence of many twins: states in groups; those of a group are of one kind, come from the same groups, and lead alike; a few edges are then changed.
func (m maker) twinned(size int) api.Recur {
	r := m.bare(size)
	states, groups := min(2+m.IntN(9), 9), 1+m.IntN(4)
	kinds, of := make([]int, groups), m.places(states, groups)
	for g := range kinds {
		kinds[g] = 1 + m.IntN(3)
	}
	leads := map[[2]int]bool{} // from a group (or -1) into a group
	costs := map[[2]int]int{}  // of an edge from a group into a state
	for g := -1; g < groups; g++ {
		for k := range groups {
			leads[[2]int{g, k}] = g != k && m.IntN(4) > 0
		}
		for to := range states {
			costs[[2]int{g, to}] = m.cost(&r)
		}
	}
	one := m.IntN(4) > 0 // whether a state's edges cost the same
	for to := range states {
		s, opening := api.State{Kind: kinds[of[to]]}, m.cost(&r)
		for from := -1; from < states; from++ {
			group := -1
			if from >= 0 {
				group = of[from]
			}
			cost := costs[[2]int{group, to}]
			if one && s.Kind != 1 {
				cost = opening
			}
			if from == to {
				cost = m.cost(&r)
			}
			if leads[[2]int{group, of[to]}] || from == to && m.IntN(16) > 0 {
				s.From = append(s.From, api.Edge{State: from, Cost: cost})
			}
		}
		r.States = append(r.States, s)
	}
	for range m.IntN(3) {
		m.changeEdge(&r)
	}
	return r
}

// changeEdge takes an edge away, or turns its cost.
func (m maker) changeEdge(r *api.Recur) {
	s := &r.States[m.IntN(len(r.States))]
	if len(s.From) == 0 {
		return
	}
	k := m.IntN(len(s.From))
	if m.IntN(2) == 0 {
		s.From[k].Cost = m.cost(r)
	} else {
		s.From = slices.Delete(s.From, k, k+1)
	}
}

// scheme is a right one, of numbers up to a size.
func (m maker) scheme(size int) api.Scheme {
	s := api.Scheme{Letters: "ACGT"[:2+m.IntN(3)], Defs: m.defs(size), Mode: 1 + m.IntN(4)}
	s.Subst = m.places(len(s.Letters)*len(s.Letters), len(s.Defs))
	costs := m.costly(s.Defs, 2+2*m.IntN(5))
	s.Front, s.Back, s.Least = costs[0], costs[1], m.IntN(len(s.Defs))
	for k := 2; k < len(costs); k += 2 {
		s.Pieces = append(s.Pieces, api.Piece{Open: costs[k], Extend: costs[k+1]})
	}
	if m.IntN(2) == 0 {
		lo, hi := m.IntN(len(s.Defs)), m.IntN(len(s.Defs))
		if v := plainNumbers(s.Defs); v[lo].Cmp(v[hi]) > 0 {
			lo, hi = hi, lo
		}
		s.Banded, s.Lo, s.Hi = true, lo, hi
	}
	return s
}
