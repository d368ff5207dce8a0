package eval_test

import (
	"math/big"
	"reflect"
	"slices"
	"testing"

	"helix/api"
	"helix/check"
	"helix/eval"
	"helix/path"
	"helix/recur"
)

// agrees holds all calls to the plain reading of a right recurrence and two short sequences.
func agrees(t *testing.T, r api.Recur, x, y []int) said {
	t.Helper()
	want := plain(r, x, y)
	f, e := eval.Eval(r, x, y)
	n, g := eval.Score(r, x, y)
	switch {
	case !want.found:
		if f != (api.Found{}) || e != api.ErrNoAlignment || n != 0 || g != api.ErrNoAlignment {
			t.Fatalf("P13.1: %v, %v, %d, %v, where there is no end: %+v, %v, %v", f, e, n, g, r, x, y)
		}
	case e != api.OK || big.NewInt(int64(f.Score)).Cmp(want.score) != 0 || f.Path != want.path:
		t.Fatalf("P13.1: Eval: %v, %v, not %v, %v: %+v, %v, %v", f, e, want.score, want.path, r, x, y)
	case g != api.OK || n != f.Score:
		t.Fatalf("P13.1: Score: %d, %v, not %d: %+v, %v, %v", n, g, f.Score, r, x, y)
	}
	for s := -1; s < len(r.States); s++ {
		for i := range len(x) + 1 {
			for j := range len(y) + 1 {
				n, is, e := eval.Value(r, x, y, s, i, j)
				v := want.values[spot{s, i, j}]
				if e != api.OK || is != (v != nil) || is && big.NewInt(int64(n)).Cmp(v) != 0 || !is && n != 0 {
					t.Fatalf("P13.2: Value of %d at (%d, %d): %d, %v, %v, not %v: %+v, %v, %v", s, i, j, n, is, e, v, r, x, y)
				}
			}
		}
	}
	return want
}

// Recurrences of many shapes are held to the plain reading, with numbers so small that many paths are worth the same.
func TestManyRecurrences(t *testing.T) {
	none, equal, long := 0, 0, 0
	for seed := range uint64(6000) {
		m := newMaker(seed)
		r := m.recur(m.IntN(4))
		x, y := m.places(m.IntN(4), r.Letters), m.places(m.IntN(4), r.Letters)
		if !recur.Right(r) {
			t.Fatalf("the test's own recurrence is wrong: %+v", r)
		}
		got := agrees(t, r, x, y)
		if !got.found {
			none++
		}
		if got.equal > 1 && len(got.path.Columns) > 0 {
			equal++
		}
		if len(got.path.Columns) > 3 {
			long++
		}
	}
	if none < 500 || equal < 500 || long < 200 {
		t.Error("of too few kinds", none, equal, long)
	}
}

// Likewise with numbers as great as may be.
func TestManyGreatNumbers(t *testing.T) {
	taken := 0
	for seed := range uint64(2000) {
		m := newMaker(seed)
		r := m.recur(3)
		for k, v := range plainNumbers(r.Defs) {
			n := max(-1, min(1, int(v.Int64())))
			r.Defs[k] = nums(n * (great - m.IntN(3)))[0]
		}
		x, y := m.places(m.IntN(4), r.Letters), m.places(m.IntN(4), r.Letters)
		if plainTooLong(r, len(x), len(y)) {
			t.Fatal("the test's own recurrence is too great")
		}
		if agrees(t, r, x, y).found {
			taken++
		}
	}
	if taken < 500 {
		t.Error("of too few kinds", taken)
	}
}

// Of Lower of a scheme Eval tells what path.Best tells of the model: all modes, bands, pieces, and sequences of up to eight letters together.
func TestTheDefinition(t *testing.T) {
	count := map[string]int{}
	for seed := range uint64(12000) {
		m := newMaker(seed)
		s := m.scheme([]int{0, 1, 2, 3, 5, 9, 1 << 20, 1 << 50, 1 << 56}[m.IntN(9)])
		model, e := check.Numbers(s)
		if e != api.OK {
			t.Fatalf("the test's own scheme is wrong: %+v", s)
		}
		r, _ := recur.Lower(s)
		rows := m.IntN(7)
		x, y := m.places(rows, model.Letters), m.places(min(m.IntN(7), 8-rows), model.Letters)
		want, e := path.Best(model, x, y)
		if e == api.ErrTooLong {
			count["too long"]++
			continue
		}
		got, g := eval.Eval(r, x, y)
		if got != want || g != e {
			t.Fatalf("P13.3: %v, %v, not %v, %v: %+v, %v, %v", got, g, want, e, s, x, y)
		}
		score, g := eval.Score(r, x, y)
		if score != want.Score || g != e {
			t.Fatalf("P13.3: Score: %v, %v, not %v, %v: %+v, %v, %v", score, g, want, e, s, x, y)
		}
		count["mode "+string(rune('0'+s.Mode))]++
		count["pieces "+string(rune('0'+len(s.Pieces)))]++
		if e == api.ErrNoAlignment {
			count["none"]++
		}
		if len(want.Path.Columns) > 4 {
			count["long"]++
		}
		if len(x)+len(y) == 8 {
			count["eight letters"]++
		}
	}
	for _, what := range []string{"mode 1", "mode 2", "mode 3", "mode 4", "pieces 0", "pieces 1", "pieces 2", "pieces 3", "pieces 4", "none", "long", "eight letters"} {
		if count[what] < 200 {
			t.Error("of too few kinds", what, count)
		}
	}
}

// As long as a model of the greatest numbers lets them be, sequences are taken.
func TestWhatAModelTakes(t *testing.T) {
	r := lowered(t, `let g = 72057594037927936; alphabet "AC"; match g; mismatch -g; gap g, g; mode global; clip g, g;`)
	tells(t, r, seq("01"), seq("01"), 1<<57, from(0, 0, "MM"))
	tells(t, r, seq("00"), seq("11"), -1<<57, from(0, 0, "MM"))
	tells(t, r, seq("00"), nil, -3<<56, from(0, 0, "DD"))
	tells(t, r, nil, seq("11"), -3<<56, from(0, 0, "II"))
}

// worth is a score, or that there is none, which is less than all.
func worth(t *testing.T, r api.Recur, x, y []int) (int, bool) {
	t.Helper()
	n, e := eval.Score(r, x, y)
	if e != api.OK && e != api.ErrNoAlignment {
		t.Fatalf("%v of %+v", e, r)
	}
	return n, e == api.OK
}

// better changes a recurrence for the better: one edge, a substitution, an end, or the band.
func (m maker) better(r *api.Recur) string {
	place := len(r.Defs)
	numbers := plainNumbers(r.Defs)
	add := func(old int, by int) int {
		r.Defs = append(r.Defs, nums(old + by)[0])
		return place
	}
	switch m.IntN(6) {
	case 0:
		k := m.IntN(len(r.Subst))
		r.Subst[k] = add(int(numbers[r.Subst[k]].Int64()), m.IntN(4))
		return "a substitution"
	case 1:
		if n := int(numbers[r.Front].Int64()); n > 0 {
			r.Front = add(n, -1)
		}
		return "Front"
	case 2:
		if n := int(numbers[r.Back].Int64()); n > 0 {
			r.Back = add(n, -1)
		}
		return "Back"
	case 3:
		if r.Lo -= m.IntN(3); r.Banded {
			r.Hi += m.IntN(3)
			return "the band"
		}
		r.Lo = 0
	}
	if len(r.States) == 0 {
		return "nothing"
	}
	s := &r.States[m.IntN(len(r.States))]
	if len(s.From) == 0 {
		return "nothing"
	}
	e, old := &s.From[m.IntN(len(s.From))], 0
	if e.Cost != -1 {
		old = int(numbers[e.Cost].Int64())
	}
	e.Cost = add(old, -m.IntN(4))
	return "an edge"
}

// A better number on an edge, a wider band, never make Score less.
func TestNeverLess(t *testing.T) {
	more, less := map[string]int{}, 0
	for seed := range uint64(20000) {
		m := newMaker(seed)
		r := m.recur(3)
		x, y := m.places(m.IntN(8), r.Letters), m.places(m.IntN(8), r.Letters)
		old, had := worth(t, r, x, y)
		what := m.better(&r)
		if !recur.Right(r) {
			t.Fatalf("the test's own recurrence is wrong: %+v", r)
		}
		n, is := worth(t, r, x, y)
		if had && (!is || n < old) {
			t.Fatalf("P13.4: %s: %d, %v, it was %d: %+v, %v, %v", what, n, is, old, r, x, y)
		}
		if !had && is || n > old {
			more[what]++
		}
		if had {
			less++
		}
	}
	if more["an edge"] < 100 || more["the band"] < 50 || less < 5000 {
		t.Error("of too few kinds", more, less)
	}
}

// roomy gives a list spare room that is filled.
func roomy[T any](l []T, fill T) []T {
	return append(append(make([]T, 0, len(l)+3), l...), fill, fill, fill)[:len(l)]
}

// whole is a list with its spare room, copied.
func whole[T any](l []T) []T { return slices.Clone(l[:cap(l)]) }

// What is handed in is not changed, nor its spare room, and what is answered hangs on it alone, not on what has been (R5, R6).
func TestHandedInStays(t *testing.T) {
	for seed := range uint64(300) {
		m := newMaker(seed)
		r := m.recur(3)
		x, y := m.places(m.IntN(5), r.Letters), m.places(m.IntN(5), r.Letters)
		want, e := eval.Eval(r, x, y)
		x, y = roomy(x, 77), roomy(y, 77)
		r.Defs, r.Subst, r.States = roomy(r.Defs, api.Def{Op: 77}), roomy(r.Subst, 77), roomy(r.States, api.State{Kind: 77})
		for k := range r.States {
			r.States[k].From = roomy(r.States[k].From, api.Edge{State: 77})
		}
		look := func() []any {
			l := []any{whole(x), whole(y), whole(r.Defs), whole(r.Subst), whole(r.States)}
			for _, s := range r.States {
				l = append(l, whole(s.From))
			}
			return l
		}
		before := look()
		eval.Score(r, x, y)
		for s := -1; s < len(r.States); s++ {
			eval.Value(r, x, y, s, len(x), len(y))
			eval.Value(r, x, y, s, len(x)/2, len(y)/2)
		}
		got, f := eval.Eval(r, x, y)
		if !reflect.DeepEqual(before, look()) {
			t.Fatalf("R5: changed %+v, %v, %v", r, x, y)
		}
		if got != want || f != e {
			t.Fatalf("R6: %v, %v, not %v, %v", got, f, want, e)
		}
	}
}

// A nil list and an empty one are the same (R4).
func TestEmptyLists(t *testing.T) {
	none := []int{}
	r := small(3, 3, state(1, -1, -1, 0, -1), state(2))
	tells(t, r, none, none, 0, api.Path{})
	tells(t, r, none, nil, 0, api.Path{})
	r.States[1].From = []api.Edge{}
	tells(t, r, seq("01"), seq("01"), 4, from(0, 0, "MM"))
	r.States = []api.State{}
	tells(t, r, seq("01"), none, 0, api.Path{})
	has(t, r, none, none, -1, 0, 0, 0)
	refused(t, "empty lists", api.Recur{Letters: 2, Defs: []api.Def{}, Subst: none, Begin: 1, End: 1, States: []api.State{}}, none, none, api.ErrRecur)
}

// Any recurrence and any sequences: each call ends with an answer or an error of the chapter, and where one refuses all do (R1).
func TestAnything(t *testing.T) {
	count := map[api.Errno]int{}
	for seed := range uint64(20000) {
		m := newMaker(seed)
		r := m.recur(3)
		x, y := m.places(m.IntN(4), r.Letters+m.IntN(2)), m.places(m.IntN(4), r.Letters)
		for range m.IntN(3) {
			l := []*int{&r.Letters, &r.Begin, &r.End, &r.Front, &r.Back, &r.Lo, &r.Hi, &r.Defs[0].Num, &r.Defs[len(r.Defs)-1].Op, &r.Subst[0]}
			for k := range r.States {
				l = append(l, &r.States[k].Kind)
				for e := range r.States[k].From {
					l = append(l, &r.States[k].From[e].State, &r.States[k].From[e].Cost)
				}
			}
			*l[m.IntN(len(l))] = []int{-2, -1, 0, 1, 2, 3, 9, 21, 1 << 57, 1<<57 + 1, 1<<63 - 1, -1 << 63}[m.IntN(12)]
		}
		want := api.OK
		switch {
		case !recur.Right(r):
			want = api.ErrRecur
		case slices.Contains(x, r.Letters) || slices.ContainsFunc(append(x[:len(x):len(x)], y...), func(n int) bool { return n > r.Letters }):
			want = api.ErrSymbol
		}
		_, _, e := eval.Value(r, x, y, -1, 0, 0)
		if e != want {
			t.Fatalf("%v, not %v, of %+v, %v, %v", e, want, r, x, y)
		}
		if count[e]++; e != api.OK {
			refused(t, "of many", r, x, y, e)
		} else {
			agrees(t, r, x, y)
		}
	}
	if count[api.ErrRecur] < 2000 || count[api.ErrSymbol] < 1000 || count[api.OK] < 5000 {
		t.Error("of too few kinds", count)
	}
}
