package passes_test

import (
	"math"
	"reflect"
	"slices"
	"testing"

	"helix/api"
	"helix/eval"
	"helix/passes"
	"helix/recur"
)

// any is a right recurrence of one of the shapes, and which.
func (m maker) any(t *testing.T) (api.Recur, string) {
	t.Helper()
	size := []int{1, 2, 3, 5, 9, 30, 1 << 20, 1 << 56}[m.IntN(8)]
	var r api.Recur
	shape := "wild"
	switch m.IntN(4) {
	case 0:
		r = m.wild(size)
	case 1:
		s := m.scheme(size)
		lowered, e := recur.Lower(s)
		if e != api.OK {
			t.Fatalf("the test's own scheme is wrong: %+v", s)
		}
		r, shape = lowered, "scheme"
	default:
		r, shape = m.twinned(size), "twinned"
	}
	if !recur.Right(r) {
		t.Fatalf("the test's own recurrence is wrong: %+v", r)
	}
	return r, shape
}

// Recurrences of many shapes are held to the plain reading.
func TestManyRecurrences(t *testing.T) {
	turned, states := map[string]int{}, map[int]int{}
	for seed := range uint64(10000) {
		m := newMaker(seed)
		r, shape := m.any(t)
		for _, p := range everyPass() {
			got, e := p.do(r)
			if want := p.plain(r); e != api.OK || !sameRecur(got, want) {
				t.Fatalf("%s: %s of %+v: %+v, %v, not %+v", p.promise, p.name, r, got, e, want)
			}
			if !sameRecur(got, r) {
				turned[p.name+", "+shape]++
			}
			if p.name == "Prune" {
				states[len(r.States)-len(got.States)]++
			}
		}
	}
	for _, p := range everyPass() {
		for _, shape := range []string{"wild", "twinned", "scheme"} {
			// A wild recurrence has hardly ever twins.
			if turned[p.name+", "+shape] < 100 && (p.name != "Prune" || shape != "wild") {
				t.Error("of too few kinds", p.name, shape, turned)
			}
		}
	}
	if states[1] < 500 || states[2] < 500 || states[3] < 200 || states[4] < 500 || states[6] < 300 {
		t.Error("of too few kinds", states)
	}
}

// Rows of lines of many slopes, so that several serve one together.
func TestManyLines(t *testing.T) {
	together := 0
	for seed := range uint64(10000) {
		m := newMaker(seed)
		size := []int{4, 9, 30, 100, 1 << 30, 1 << 57}[m.IntN(6)]
		var costs []int
		for range 2 * (2 + m.IntN(7)) {
			n := m.IntN(size + 1)
			if m.IntN(4) == 0 {
				n = -n
			}
			costs = append(costs, n)
		}
		r := gapsOf(2+m.IntN(2), costs...)
		want := plainPrune(r)
		if got, e := passes.Prune(r); e != api.OK || !sameRecur(got, want) {
			t.Fatalf("P14.2: Prune of %v: %+v, %v, not %+v", costs, got, e, want)
		}
		alone := func(k int) bool { // whether one line alone serves k's
			for o := 0; o < len(costs); o += 2 {
				if o != k && costs[o] <= costs[k] && costs[o+1] <= costs[k+1] {
					return true
				}
			}
			return false
		}
		gone := len(r.States) - len(want.States)
		for k := 0; k < len(costs); k += 2 {
			if alone(k) {
				gone--
			}
		}
		if gone > 0 {
			together++
		}
	}
	if together < 1000 {
		t.Error("of too few kinds", together)
	}
}

// sequences are two of a recurrence's letters.
func (m maker) sequences(r api.Recur, below int) ([]int, []int) {
	return m.places(m.IntN(below), r.Letters), m.places(m.IntN(below), r.Letters)
}

// saysTheSame holds what a pass told to say the same of two sequences, path and all.
func saysTheSame(t *testing.T, name string, r, got api.Recur, x, y []int) (taken bool) {
	t.Helper()
	want, e := eval.Eval(r, x, y)
	if e == api.ErrTooLong || e == api.ErrCells {
		return false
	}
	if f, g := eval.Eval(got, x, y); f != want || g != e {
		t.Fatalf("P14.6: after %s: %v, %v, not %v, %v: %+v of %+v, %v, %v", name, f, g, want, e, got, r, x, y)
	}
	return e == api.OK
}

// The stage's theorem: what a pass tells is right, says the same, and folds; done once more Fold, Drop and Clamp change nothing.
func TestTheorem(t *testing.T) {
	aligned, gaps := 0, 0
	for seed := range uint64(20000) {
		m := newMaker(seed)
		r, _ := m.any(t)
		x, y := m.sequences(r, 8)
		for _, p := range everyPass() {
			got, e := p.do(r)
			if e != api.OK || !recur.Right(got) {
				t.Fatalf("P14.6: %s of %+v is not right: %+v, %v", p.name, r, got, e)
			}
			if saysTheSame(t, p.name, r, got, x, y) {
				aligned++
				f, _ := eval.Eval(got, x, y)
				if slices.ContainsFunc([]byte(f.Path.Columns), func(c byte) bool { return c != 'M' }) {
					gaps++
				}
			}
			if f, e := passes.Fold(got); e != api.OK || !recur.Folded(f) {
				t.Fatalf("P14.6: Fold behind %s is not folded: %+v, %v", p.name, f, e)
			}
			again, e := p.do(got)
			if e != api.OK || !sameRecur(again, got) && p.name != "Prune" && p.name != "All" {
				t.Fatalf("P14.6: %s once more: %+v, %v, not %+v", p.name, again, e, got)
			}
		}
	}
	if aligned < 20000 || gaps < 5000 {
		t.Error("of too few kinds", aligned, gaps)
	}
}

// The theorem where sequences are long, and gaps too, so that pieces cross.
func TestTheoremOfLongGaps(t *testing.T) {
	taken := 0
	for seed := range uint64(300) {
		m := newMaker(seed)
		s := m.scheme(6)
		r, e := recur.Lower(s)
		if e != api.OK {
			t.Fatal(e)
		}
		x, y := m.places(m.IntN(60), r.Letters), m.places(m.IntN(20), r.Letters)
		if m.IntN(2) == 0 {
			x, y = y, x
		}
		for _, p := range everyPass() {
			got, _ := p.do(r)
			if saysTheSame(t, p.name, r, got, x, y) {
				taken++
			}
		}
	}
	if taken < 500 {
		t.Error("of too few kinds", taken)
	}
}

// The theorem at the band's edges: no sequence is long enough to tell a band from what it is clamped to.
func TestTheoremOfBands(t *testing.T) {
	for _, letters := range [][2]int{{0, 65536}, {65536, 0}, {1, 65536}, {65536, 1}, {2, 65535}, {65535, 2}} {
		if (letters[0]+1)*(letters[1]+1) > api.MaxCells {
			t.Fatal("the test's own sequences are too long")
		}
		x, y := make([]int, letters[0]), make([]int, letters[1])
		for _, band := range [][2]int{
			{-65536, 65536}, {math.MinInt, math.MaxInt}, {-65537, -65536}, {65536, 65537}, {65536, math.MaxInt}, {65537, math.MaxInt}, {math.MinInt, -65537}, {math.MinInt, 65535}, {-65535, 70000},
		} {
			r := of([]int{1}, state(1, -1, -1, 0, -1, 1, -1, 2, -1), state(2, -1, 1, 0, 1, 1, -1), state(3, -1, 1, 0, 1, 2, -1))
			r.Subst = []int{1, 1, 1, 1}
			r.Banded, r.Lo, r.Hi = true, band[0], band[1]
			got, e := passes.Clamp(r)
			if e != api.OK {
				t.Fatal(e)
			}
			saysTheSame(t, "Clamp", r, got, x, y)
			r.Begin, r.End = api.AtCorner, api.AtCorner
			got.Begin, got.End = api.AtCorner, api.AtCorner
			saysTheSame(t, "Clamp", r, got, x, y)
		}
	}
}

// Where a recurrence is ErrTooLong, what passes make of it may be taken: the theorem holds of no more than it says, and errors of letters are the same.
func TestTheoremOfErrors(t *testing.T) {
	const great = 1 << 57
	r := gapsOf(2, 1, 1, great, great)
	x := make([]int, 40)
	got, _ := passes.Prune(r)
	if _, e := eval.Eval(r, x, nil); e != api.ErrTooLong {
		t.Fatal("the test's own recurrence is taken", e)
	}
	if _, e := eval.Eval(got, x, nil); e != api.OK {
		t.Error(e)
	}
	for _, p := range everyPass() {
		got, _ := p.do(r)
		if _, e := eval.Eval(got, []int{2}, nil); e != api.ErrSymbol {
			t.Errorf("P14.6: after %s: %v", p.name, e)
		}
	}
}

// roomy gives a list spare room that is filled.
func roomy[T any](l []T, fill T) []T {
	return append(append(make([]T, 0, len(l)+3), l...), fill, fill, fill)[:len(l)]
}

// whole is a list with its spare room, copied.
func whole[T any](l []T) []T { return slices.Clone(l[:cap(l)]) }

// lookAt copies all that a recurrence's lists hold, their spare room too.
func lookAt(r api.Recur) []any {
	l := []any{r.Letters, r.Begin, r.End, r.Front, r.Back, r.Banded, r.Lo, r.Hi, whole(r.Defs), whole(r.Subst)}
	for _, s := range r.States[:cap(r.States)] {
		l = append(l, s.Kind, whole(s.From))
	}
	return l
}

// scribble writes over all that a recurrence's lists hold, their spare room too.
func scribble(r api.Recur) {
	for _, s := range r.States[:cap(r.States)] {
		for k := range s.From[:cap(s.From)] {
			s.From[:cap(s.From)][k] = api.Edge{State: 55, Cost: 55}
		}
	}
	for k := range r.States[:cap(r.States)] {
		r.States[:cap(r.States)][k] = api.State{Kind: 55}
	}
	for k := range r.Defs[:cap(r.Defs)] {
		r.Defs[:cap(r.Defs)][k] = api.Def{Op: 55}
	}
	for k := range r.Subst[:cap(r.Subst)] {
		r.Subst[:cap(r.Subst)][k] = 55
	}
}

// What is handed in is not changed, nor its spare room; what is answered is new memory, and hangs on what is handed in alone (R5, R6).
func TestHandedInStays(t *testing.T) {
	for seed := range uint64(2000) {
		m := newMaker(seed)
		r, _ := m.any(t)
		plain := copied(r)
		r.Defs, r.Subst, r.States = roomy(r.Defs, api.Def{Op: 77}), roomy(r.Subst, 77), roomy(r.States, state(77, 7, 7))
		for k := range r.States {
			r.States[k].From = roomy(r.States[k].From, api.Edge{State: 77, Cost: 77})
		}
		before := lookAt(r)
		for _, p := range everyPass() {
			want, _ := p.do(plain)
			want = copied(want)
			got, e := p.do(r)
			if e != api.OK || !sameRecur(got, want) {
				t.Fatalf("R6: %s: %+v, %v, not %+v", p.name, got, e, want)
			}
			scribble(got)
			if !reflect.DeepEqual(before, lookAt(r)) {
				t.Fatalf("R5: %s changed %+v, or shares its memory", p.name, plain)
			}
		}
	}
}

// No two lists of one answer share memory (R5), though lists that are handed in do.
func TestListsApart(t *testing.T) {
	shared := state(2, -1, 1, 0, 1)
	r := of([]int{5, 6}, state(1, -1, -1), shared, shared, state(2, -1, 1, 0, 1, 1, 1))
	r.States[2].From = r.States[1].From
	r.States[3].From = r.States[3].From[:2]
	for _, p := range everyPass() {
		got, e := p.do(r)
		if e != api.OK || len(got.States) != 4 {
			t.Fatal(got, e)
		}
		want := copied(got)
		for k := range got.States {
			mine := got.States[k].From
			for e := range mine[:cap(mine)] {
				mine[:cap(mine)][e] = api.Edge{State: 55}
			}
			for o := range got.States {
				if o != k && !slices.Equal(got.States[o].From, want.States[o].From) {
					t.Fatalf("R5: %s: edges of %d and %d share memory", p.name, k, o)
				}
			}
			copy(mine, want.States[k].From)
		}
	}
}

// A nil list and an empty one are the same (R4).
func TestEmptyLists(t *testing.T) {
	r := of(nil, state(1, -1, 0), state(2))
	r.States[1].From = []api.Edge{}
	leavesAll(t, prune, r)
	leaves(t, drop, r, 0)
	r.States = []api.State{}
	for _, p := range everyPass() {
		leavesAll(t, p, r)
	}
	r.States = nil
	for _, p := range everyPass() {
		leavesAll(t, p, r)
		if _, e := p.do(api.Recur{Letters: 2, Defs: []api.Def{}, Subst: []int{}, Begin: 1, End: 1, States: []api.State{}}); e != api.ErrRecur {
			t.Error(p.name, e)
		}
	}
}

// Any recurrence: each call ends, with ErrRecur just where it is not right (R1).
func TestAnything(t *testing.T) {
	count := map[api.Errno]int{}
	for seed := range uint64(20000) {
		m := newMaker(seed)
		r, _ := m.any(t)
		for range 1 + m.IntN(3) {
			l := []*int{&r.Letters, &r.Begin, &r.End, &r.Front, &r.Back, &r.Lo, &r.Hi, &r.Defs[0].Num, &r.Defs[len(r.Defs)-1].Op, &r.Subst[0]}
			for k := range r.States {
				l = append(l, &r.States[k].Kind)
				for e := range r.States[k].From {
					l = append(l, &r.States[k].From[e].State, &r.States[k].From[e].Cost)
				}
			}
			*l[m.IntN(len(l))] = []int{-2, -1, 0, 1, 2, 3, 9, 21, 1 << 57, 1<<57 + 1, math.MaxInt, math.MinInt}[m.IntN(12)]
		}
		right := recur.Right(r)
		for _, p := range everyPass() {
			got, e := p.do(r)
			count[e]++
			switch {
			case right && (e != api.OK || !sameRecur(got, p.plain(r))):
				t.Fatalf("%s: %s of %+v: %+v, %v", p.promise, p.name, r, got, e)
			case !right && (e != api.ErrRecur || !sameRecur(got, api.Recur{})):
				t.Fatalf("%s of a wrong one, %+v: %+v, %v", p.name, r, got, e)
			}
		}
	}
	if count[api.OK] < 10000 || count[api.ErrRecur] < 10000 {
		t.Error("of too few kinds", count)
	}
}
