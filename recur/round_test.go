package recur_test

import (
	"math"
	"math/rand/v2"
	"reflect"
	"slices"
	"testing"

	"helix/api"
	"helix/check"
	"helix/path"
	"helix/recur"
)

// maker makes schemes and recurrences of many shapes, by numbers that are the same each time.
type maker struct{ *rand.Rand }

func newMaker(seed uint64) maker { return maker{rand.New(rand.NewPCG(seed, 12))} }

// def is a definition for a place, mostly of a small number.
func (m maker) def(place int) api.Def {
	op := 1 + m.IntN(9)
	switch {
	case op == 1 && m.IntN(4) == 0:
		return numsOf([]int{1 << 56, -1 << 56, 1 << 57, -1 << 57, 1 << 28}[m.IntN(5)])[0]
	case op == 1 || op > 7 || place == 0:
		return numsOf(m.IntN(12) - 3)[0]
	case op == 2:
		return def(op, m.IntN(place), 0)
	}
	return def(op, m.IntN(place), m.IntN(place))
}

// defs are some that are right.
func (m maker) defs() []api.Def {
	var l []api.Def
	for range 1 + m.IntN(12) {
		if d := m.def(len(l)); len(l) == 0 || goesOn(l, d) {
			l = append(l, d)
		}
	}
	return l
}

func goesOn(l []api.Def, d api.Def) bool {
	_, ok := plainValues(append(slices.Clone(l), d))
	return ok
}

func (m maker) places(n, defs int) []int {
	l := make([]int, n)
	for k := range l {
		l[k] = m.IntN(defs)
	}
	return l
}

// scheme is one that is mostly right.
func (m maker) scheme() api.Scheme {
	s := api.Scheme{Letters: "ACGT"[:2+m.IntN(3)], Defs: m.defs(), Mode: 1 + m.IntN(4)}
	n := len(s.Defs)
	s.Subst = m.places(len(s.Letters)*len(s.Letters), n)
	s.Pieces = pieces(m.places(2*m.IntN(5), n)...)
	s.Front, s.Back, s.Least = m.IntN(n), m.IntN(n), m.IntN(n)
	if m.IntN(2) == 0 {
		s.Banded, s.Lo, s.Hi = true, m.IntN(n), m.IntN(n)
	}
	return s
}

// odd is a number that may be wrong.
func (m maker) odd() int {
	return []int{-2, -1, 0, 1, 2, 3, 4, 5, 8, 9, 10, 20, 21, math.MaxInt, math.MinInt, 1 << 32}[m.IntN(16)]
}

// recur is one that is mostly right.
func (m maker) recur() api.Recur {
	r := api.Recur{Letters: 2 + m.IntN(2), Defs: m.defs(), Begin: 1 + m.IntN(3), End: 1 + m.IntN(3)}
	n := len(r.Defs)
	r.Subst = m.places(r.Letters*r.Letters, n)
	r.Front, r.Back = m.IntN(n), m.IntN(n)
	if m.IntN(2) == 0 {
		r.Banded, r.Lo, r.Hi = true, -m.IntN(5), m.IntN(5)
	}
	states := m.IntN(10)
	for range states {
		s := api.State{Kind: 1 + m.IntN(3)}
		for from := -1; from < states; from++ {
			if m.IntN(2) == 0 {
				s.From = append(s.From, api.Edge{State: from, Cost: m.IntN(n+1) - 1})
			}
		}
		r.States = append(r.States, s)
	}
	return r
}

// numbers are all that a recurrence has.
func numbers(r *api.Recur) []*int {
	l := []*int{&r.Letters, &r.Begin, &r.End, &r.Front, &r.Back, &r.Lo, &r.Hi}
	for k := range r.Defs {
		l = append(l, &r.Defs[k].Op, &r.Defs[k].Num, &r.Defs[k].A, &r.Defs[k].B)
	}
	for k := range r.Subst {
		l = append(l, &r.Subst[k])
	}
	for k := range r.States {
		l = append(l, &r.States[k].Kind)
		for e := range r.States[k].From {
			l = append(l, &r.States[k].From[e].State, &r.States[k].From[e].Cost)
		}
	}
	return l
}

// other changes one thing of a recurrence.
func (m maker) other(r *api.Recur) {
	switch m.IntN(12) {
	case 0:
		r.Banded = !r.Banded
	case 1:
		r.Subst = r.Subst[:max(0, len(r.Subst)-1)]
	case 2:
		r.Subst = append(r.Subst, 0)
	case 3:
		r.Defs = r.Defs[:max(0, len(r.Defs)-1)]
	case 4:
		r.States = append(r.States, api.State{Kind: 1})
	case 5:
		if len(r.States) > 0 {
			r.States = r.States[:len(r.States)-1]
		}
	case 6:
		if len(r.States) > 0 {
			s := &r.States[m.IntN(len(r.States))]
			m.Shuffle(len(s.From), func(a, b int) { s.From[a], s.From[b] = s.From[b], s.From[a] })
		}
	case 7:
		if len(r.States) > 0 {
			s := &r.States[m.IntN(len(r.States))]
			s.From = append(s.From, api.Edge{State: m.IntN(10) - 1, Cost: -1})
		}
	default:
		l := numbers(r)
		*l[m.IntN(len(l))] = m.odd()
	}
}

// Schemes of many shapes: Lower is held to the plain reading.
func TestManySchemes(t *testing.T) {
	right, wrong := 0, 0
	for seed := range uint64(30000) {
		s := newMaker(seed).scheme()
		if plainScheme(s) {
			right++
			lowers(t, s, plainLower(s))
		} else {
			wrong++
			refuses(t, "of many", s)
		}
		if t.Failed() {
			return
		}
	}
	if right < 2000 || wrong < 2000 {
		t.Error("of too few kinds", right, wrong)
	}
}

// Recurrences of many shapes, as they are made and with one or two things changed: Right and Folded are held to the plain reading.
func TestManyRecurrences(t *testing.T) {
	count := map[bool]int{}
	for seed := range uint64(60000) {
		m := newMaker(seed)
		r := m.recur()
		if m.IntN(3) == 0 {
			if s := m.scheme(); plainScheme(s) {
				r = plainLower(s)
			}
		}
		for range m.IntN(3) {
			m.other(&r)
		}
		count[plainRight(r)]++
		if recur.Right(r) != plainRight(r) || recur.Folded(r) != plainFolded(r) {
			t.Fatalf("P12.2: %v, %v of %+v", recur.Right(r), recur.Folded(r), r)
		}
	}
	if count[true] < 10000 || count[false] < 10000 {
		t.Error("of too few kinds", count)
	}
}

// All rows of up to four edges from few states: just those that rise are right.
func TestAllRowsOfEdges(t *testing.T) {
	var all func(row []api.Edge)
	all = func(row []api.Edge) {
		r := oneDef()
		r.States = []api.State{{Kind: 1}, {Kind: 2, From: row}, {Kind: 3}}
		if recur.Right(r) != plainRight(r) {
			t.Errorf("P12.2: Right of %v: %v", row, recur.Right(r))
		}
		if len(row) == 4 {
			return
		}
		for state := -2; state <= 3; state++ {
			all(append(slices.Clone(row), api.Edge{State: state, Cost: state % 2}))
		}
	}
	all(nil)
}

// best is the greatest worth of an end, as chapter 13 reckons it, of a recurrence and two sequences; false, if there is none.
func best(r api.Recur, values, x, y []int) (int, bool) {
	type at struct{ state, i, j int }
	known := map[at]*int{}
	counts := func(i, j int) bool { return i >= 0 && j >= 0 && (!r.Banded || r.Lo <= j-i && j-i <= r.Hi) }
	var value func(a at) *int
	value = func(a at) *int {
		if v, ok := known[a]; ok || !counts(a.i, a.j) {
			return v
		}
		var v *int
		if a.state < 0 {
			if r.Begin == api.AtAny || a.j == 0 && (r.Begin == api.AtSide || a.i == 0) {
				v = new(int)
				if a.j > 0 {
					*v = -values[r.Front]
				}
			}
			return v
		}
		s := r.States[a.state]
		i, j := a.i, a.j
		if s.Kind != api.KindInsert {
			i--
		}
		if s.Kind != api.KindDelete {
			j--
		}
		for _, e := range s.From {
			u := value(at{e.State, i, j})
			if u == nil {
				continue
			}
			w := *u
			if e.Cost >= 0 {
				w -= values[e.Cost]
			}
			if s.Kind == api.KindMatch {
				w += values[r.Subst[r.Letters*x[i]+y[j]]]
			}
			if v == nil || w > *v {
				v = &w
			}
		}
		known[a] = v
		return v
	}
	var top *int
	for i := range len(x) + 1 {
		for j := range len(y) + 1 {
			if r.End == api.AtCorner && (i < len(x) || j < len(y)) || r.End == api.AtSide && j < len(y) {
				continue
			}
			for state := -1; state < len(r.States); state++ {
				u := value(at{state, i, j})
				if u == nil {
					continue
				}
				w := *u
				if j < len(y) {
					w -= values[r.Back]
				}
				if top == nil || w > *top {
					top = &w
				}
			}
		}
	}
	if top == nil {
		return 0, false
	}
	return *top, true
}

// What a scheme's recurrence says, reckoned by chapter 13, is what the definition of paths says of its model.
func TestLowerSaysTheBest(t *testing.T) {
	told, none := 0, 0
	for seed := range uint64(6000) {
		m := newMaker(seed)
		s := m.scheme()
		r, e := recur.Lower(s)
		if e != api.OK {
			continue
		}
		model, _ := check.Numbers(s)
		values, _ := check.Values(r.Defs...)
		x, y := m.places(m.IntN(4), model.Letters), m.places(m.IntN(4), model.Letters)
		want, e := path.Best(model, x, y)
		if e == api.ErrTooLong {
			continue
		}
		got, ok := best(r, values, x, y)
		if ok != (e == api.OK) || got != want.Score {
			t.Fatalf("%d, %v, not %v, %v: %+v, %v, %v", got, ok, want, e, s, x, y)
		}
		told++
		if !ok {
			none++
		}
	}
	if told < 500 || none < 20 {
		t.Error("of too few kinds", told, none)
	}
}

// roomy gives a list spare room that is filled.
func roomy[T any](l []T, fill T) []T {
	return append(append(make([]T, 0, len(l)+3), l...), fill, fill, fill)[:len(l)]
}

// whole is a list with its spare room, copied.
func whole[T any](l []T) []T { return slices.Clone(l[:cap(l)]) }

// What is handed in is not changed, nor its spare room (R5).
func TestHandedInStays(t *testing.T) {
	for seed := range uint64(300) {
		m := newMaker(seed)
		s := m.scheme()
		if seed == 0 {
			s = sample()
		}
		s.Defs, s.Subst, s.Pieces = roomy(s.Defs, def(9, 9, 9)), roomy(s.Subst, 77), roomy(s.Pieces, pieces(77, 78)[0])
		defs, subst, gaps := whole(s.Defs), whole(s.Subst), whole(s.Pieces)
		recur.Lower(s)
		if !slices.Equal(defs, whole(s.Defs)) || !slices.Equal(subst, whole(s.Subst)) || !slices.Equal(gaps, whole(s.Pieces)) {
			t.Fatalf("R5: Lower changed %+v", s)
		}
		r := m.recur()
		r.Defs, r.Subst, r.States = roomy(r.Defs, def(9, 9, 9)), roomy(r.Subst, 77), roomy(r.States, api.State{Kind: 77})
		for k := range r.States {
			r.States[k].From = roomy(r.States[k].From, edges(77, 78)[0])
		}
		look := func() []any {
			l := []any{whole(r.Defs), whole(r.Subst), whole(r.States)}
			for _, s := range r.States {
				l = append(l, whole(s.From))
			}
			return l
		}
		before := look()
		recur.Right(r)
		recur.Folded(r)
		if !reflect.DeepEqual(before, look()) {
			t.Fatalf("R5: changed %+v", r)
		}
	}
}

// spoil fills all lists of a recurrence, and their spare room.
func spoil(r api.Recur) {
	for k := range r.Defs[:cap(r.Defs)] {
		r.Defs[:cap(r.Defs)][k] = def(9, 9, 9)
	}
	for k := range r.Subst[:cap(r.Subst)] {
		r.Subst[:cap(r.Subst)][k] = 77
	}
	for _, s := range r.States {
		spoilEdges(s.From)
	}
	for k := range r.States[:cap(r.States)] {
		r.States[:cap(r.States)][k] = api.State{Kind: 77}
	}
}

func spoilEdges(l []api.Edge) {
	for k := range l[:cap(l)] {
		l[:cap(l)][k] = edges(77, 78)[0]
	}
}

// What is answered is new memory, of which no two lists share any, and hangs on nothing that has been (R5, R6).
func TestAnswersAreNew(t *testing.T) {
	for n := range 5 {
		s := sample()
		s.Pieces = pieces([]int{2, 3, 4, 5, 4, 5, 8, 2}[:2*n]...)
		s.Defs, s.Subst, s.Pieces = slices.Clone(s.Defs), slices.Clone(s.Subst), slices.Clone(s.Pieces)
		want := plainLower(s)
		first, e := recur.Lower(s)
		if e != api.OK {
			t.Fatal(e)
		}
		second, _ := recur.Lower(s)
		spoil(second)
		if !sameRecur(first, want) || !plainScheme(s) || !sameRecur(plainLower(s), want) {
			t.Fatalf("R5: two answers share memory, or one and the scheme: %+v, of %+v", first, s)
		}
		for k := range s.Defs {
			s.Defs[k] = def(9, 9, 9)
		}
		for k := range s.Subst {
			s.Subst[k] = 77
		}
		for k := range s.Pieces {
			s.Pieces[k] = pieces(77, 78)[0]
		}
		if !sameRecur(first, want) {
			t.Fatalf("R5: it hangs on the scheme: %+v", first)
		}
		// Each list of edges that is spoilt leaves those of the other states.
		for k := range first.States {
			spoilEdges(first.States[k].From)
			for other := k + 1; other < len(first.States); other++ {
				if !sameState(first.States[other], want.States[other]) {
					t.Fatalf("R5: the edges of %d and %d share memory", k, other)
				}
			}
		}
	}
	s := sample()
	recur.Lower(api.Scheme{})
	lowers(t, s, plainLower(s))
}

// A nil list and an empty one are the same (R4).
func TestEmptyLists(t *testing.T) {
	s := sample()
	s.Pieces = nil
	want, e := recur.Lower(s)
	s.Pieces = []api.Piece{}
	got, f := recur.Lower(s)
	if e != api.OK || f != api.OK || !sameRecur(got, want) {
		t.Error(got, e, want, f)
	}
	refuses(t, "empty lists", api.Scheme{Letters: "", Defs: []api.Def{}, Subst: []int{}, Pieces: []api.Piece{}})
	if recur.Right(api.Recur{Defs: []api.Def{}, Subst: []int{}, States: []api.State{}}) || !recur.Folded(api.Recur{Defs: []api.Def{}}) || !recur.Folded(api.Recur{}) {
		t.Error("empty lists")
	}
}
