package gen_test

import (
	"math"
	"reflect"
	"slices"
	"strings"
	"testing"

	"helix/api"
	"helix/check"
	"helix/gen"
	"helix/passes"
	"helix/path"
	"helix/recur"
)

// The stage's theorem, over recurrences of many shapes: of most of them many paths are worth as much.
func TestManyRecurrences(t *testing.T) {
	count := map[string]int{}
	for seed := range uint64(20000) {
		m := newMaker(seed)
		r := m.wild(m.size())
		if !recur.Right(r) || !recur.Folded(r) {
			t.Fatalf("the test's own recurrence is wrong: %+v", r)
		}
		most := []int{0, 1, 3, 7, 100, 10000}[m.IntN(6)]
		c := made(t, r, most)
		for range 3 {
			x, y := m.sequences(r, min(most+1, 8))
			f, e := says(t, r, c, x, y)
			switch {
			case e == api.ErrNoAlignment:
				count["none"]++
			case e != api.OK:
				t.Fatalf("the test's own sequences are refused: %v of %+v", e, r)
			case f.Path.Columns == "":
				count["no column"]++
			case len(f.Path.Columns) > 4:
				count["long"]++
			}
			for _, column := range "MDI" {
				if strings.ContainsRune(f.Path.Columns, column) {
					count[string(column)]++
				}
			}
			if f.Path.J > 0 {
				count["begun inside"]++
			}
		}
	}
	for _, kind := range []string{"none", "no column", "long", "M", "D", "I", "begun inside"} {
		if count[kind] < 2000 {
			t.Error("of too few kinds", kind, count)
		}
	}
}

// Likewise over sequences of some length.
func TestLongerSequences(t *testing.T) {
	long := 0
	for seed := range uint64(300) {
		m := newMaker(seed + 1<<32)
		r := m.wild(m.size())
		x, y := m.sequences(r, 90)
		if f, e := says(t, r, made(t, r, 90), x, y); e == api.OK && len(f.Path.Columns) > 40 {
			long++
		}
	}
	if long < 50 {
		t.Error("of too few kinds", long)
	}
}

// folded are a scheme's recurrence with its definitions folded alone, and with all passes through.
func folded(t *testing.T, s api.Scheme) [2]api.Recur {
	t.Helper()
	r, e := recur.Lower(s)
	if e != api.OK {
		t.Fatalf("the test's own scheme is wrong: %+v", s)
	}
	first, _ := passes.Fold(r)
	second, _ := passes.All(r)
	return [2]api.Recur{first, second}
}

// A scheme's code tells what path.Best tells of its model, with all passes through or not.
func TestTheDefinition(t *testing.T) {
	count := map[string]int{}
	for seed := range uint64(6000) {
		m := newMaker(seed)
		s := m.scheme(m.size())
		model, e := check.Numbers(s)
		if e != api.OK {
			t.Fatalf("the test's own scheme is wrong: %+v", s)
		}
		rows := m.IntN(7)
		x, y := m.places(rows, model.Letters), m.places(min(m.IntN(7), 8-rows), model.Letters)
		want, e := path.Best(model, x, y)
		for _, r := range folded(t, s) {
			got, g := says(t, r, made(t, r, 8), x, y)
			if got != want || g != e {
				t.Fatalf("P19.3: %v, %v, not %v, %v: %+v, %v, %v", got, g, want, e, s, x, y)
			}
		}
		count["mode "+string(rune('0'+s.Mode))]++
		count["pieces "+string(rune('0'+len(s.Pieces)))]++
		if e == api.ErrNoAlignment {
			count["none"]++
		}
		if len(want.Path.Columns) > 4 {
			count["long"]++
		}
	}
	for _, what := range []string{"mode 1", "mode 2", "mode 3", "mode 4", "pieces 0", "pieces 1", "pieces 2", "pieces 3", "pieces 4", "none", "long"} {
		if count[what] < 200 {
			t.Error("of too few kinds", what, count)
		}
	}
}

// A scheme's code is as short as T7 of the whole asks, whatever it has.
func TestStepsOfSchemes(t *testing.T) {
	for seed := range uint64(3000) {
		m := newMaker(seed)
		s := m.scheme(1 + m.size())
		for _, r := range folded(t, s) {
			if c := made(t, r, 100); len(c.Cell) > 64*(len(s.Pieces)+1) {
				t.Fatalf("T7: %d instructions of %d pieces: %+v of %+v", len(c.Cell), len(s.Pieces), c, s)
			}
		}
	}
}

// found holds a recurrence's code to a path and its score.
func found(t *testing.T, what string, r api.Recur, x, y string, score, i, j int, columns string) {
	t.Helper()
	want := api.Found{Score: score, Path: api.Path{I: i, J: j, Columns: columns}}
	if f, e := says(t, r, made(t, r, 9), seq(x), seq(y)); e != api.OK || f != want {
		t.Errorf("P19.3: %s: %v, %v, not %v", what, f, e, want)
	}
}

// foundNone holds it to ErrNoAlignment.
func foundNone(t *testing.T, what string, r api.Recur, x, y string) {
	t.Helper()
	if f, e := says(t, r, made(t, r, 9), seq(x), seq(y)); e != api.ErrNoAlignment || f != (api.Found{}) {
		t.Errorf("P19.3: %s: %v, %v", what, f, e)
	}
}

// Where paths begin and end, and what it takes there.
func TestBeginAndEnd(t *testing.T) {
	// Matches alone: of like letters 5, of others -9; to begin late takes 2, to end early 3.
	r := of([]int{5, -9, 2, 3}, state(api.KindMatch, -1, -1, 0, -1))
	r.Subst, r.Front, r.Back = []int{1, 2, 2, 1}, 3, 4
	ends := func(begin, end int) api.Recur {
		r.Begin, r.End = begin, end
		return r
	}
	found(t, "from corner to corner", ends(1, 1), "AC", "AC", 10, 0, 0, "MM")
	foundNone(t, "from corner to corner", ends(1, 1), "AC", "ACC")
	found(t, "from side to side", ends(2, 2), "CACC", "AC", 10, 1, 0, "MM")
	foundNone(t, "from side to side", ends(2, 2), "A", "AC")
	found(t, "from the corner to any", ends(1, 3), "ACC", "ACA", 7, 0, 0, "MM")
	found(t, "from the corner to the last column", ends(1, 3), "ACC", "AC", 10, 0, 0, "MM")
	found(t, "from the corner to the side", ends(1, 2), "ACC", "AC", 10, 0, 0, "MM")
	found(t, "from the side to the corner", ends(2, 1), "ACC", "CC", 10, 1, 0, "MM")
	found(t, "from any to the corner", ends(3, 1), "CC", "ACC", 8, 0, 1, "MM")
	found(t, "from any to the side", ends(3, 2), "CCA", "ACC", 8, 0, 1, "MM")
	found(t, "from the side to any", ends(2, 3), "ACC", "CCA", 7, 1, 0, "MM")
	found(t, "from any to any", ends(3, 3), "CACC", "CACA", 12, 0, 0, "MMM")
	found(t, "both ends left out", ends(3, 3), "CC", "ACCA", 5, 0, 1, "MM")
	found(t, "nothing is worth as much as one match with both ends left out", ends(3, 3), "CA", "ACA", 8, 0, 1, "MM")
	found(t, "no letters at all", ends(1, 1), "", "", 0, 0, 0, "")
	foundNone(t, "no column can be led through", ends(1, 1), "", "A")
	found(t, "no column: it begins late, and ends at the last column", ends(3, 2), "", "A", -2, 0, 1, "")
	found(t, "no column: it ends early", ends(2, 3), "", "A", -3, 0, 0, "")
	found(t, "no column: to begin late takes less", ends(3, 3), "", "A", -2, 0, 1, "")
	r.Front, r.Back = 0, 0
	found(t, "ends for nothing", ends(3, 3), "CC", "ACCA", 10, 0, 1, "MM")
	found(t, "ends for nothing", ends(3, 3), "C", "A", 0, 0, 0, "")
}

// What an edge costs, and what it brings; of several ways the greatest counts, of equal ones the first path in order.
func TestEdges(t *testing.T) {
	x, y := "ACA", "CA"
	free := of(nil, state(1, -1, -1, 0, -1, 1, -1), state(2, -1, 0, 0, -1, 1, -1))
	free.Begin, free.End = 1, 1
	found(t, "all is worth 0: M stands ahead", free, x, y, 0, 0, 0, "DMM")
	late := of([]int{-3, 7}, state(1, -1, -1, 0, -1, 1, 2), state(2, -1, 0, 0, 1, 1, -1))
	late.Begin, late.End = 1, 1
	found(t, "a delete behind a match brings 3", late, x, y, 3, 0, 0, "MMD")
	// Two states of matches, unlike in what they cost, for the same columns.
	two := of([]int{1, 4}, state(1, -1, 2, 0, 0), state(1, -1, 1, 1, 2), state(1, 0, 1, 1, 0))
	two.Begin, two.End = 1, 1
	found(t, "by the third state from the second", two, "AAA", "AAA", -4, 0, 0, "MMM")
	found(t, "by the second, and the third", two, "AA", "AA", -1, 0, 0, "MM")
	// Only from a beginning: no path is longer than a column.
	once := of([]int{-1}, state(3, -1, 1))
	found(t, "once", once, "", "AAA", 1, 0, 0, "I")
	once.Begin, once.End = 1, 1
	foundNone(t, "once", once, "", "AA")
}

// Recurrences with hardly anything in them.
func TestFewStates(t *testing.T) {
	for begin := 1; begin <= 3; begin++ {
		for end := 1; end <= 3; end++ {
			for price := range 2 {
				for _, states := range [][]api.State{
					nil, {state(1)}, {state(2)}, {state(3)}, {state(1), state(2), state(3)}, {state(1, 0, -1)}, {state(2, 0, 1), state(3, 0, 1)}, {state(1, -1, -1)}, {state(2, -1, 1)}, {state(3, -1, 1)},
				} {
					r := of([]int{1}, states...)
					r.Begin, r.End, r.Front, r.Back = begin, end, price, price
					c := made(t, r, 3)
					for rows := range 4 {
						for columns := range 4 {
							says(t, r, c, make([]int, rows), make([]int, columns))
						}
					}
				}
			}
		}
	}
}

// roomy gives a list spare room that is filled.
func roomy[T any](l []T, fill T) []T {
	return append(append(make([]T, 0, len(l)+3), l...), fill, fill, fill)[:len(l)]
}

// whole is a list with its spare room, copied.
func whole[T any](l []T) []T { return slices.Clone(l[:cap(l)]) }

// lookAt copies all that a recurrence's lists hold, their spare room too.
func lookAt(r api.Recur) []any {
	l := []any{whole(r.Defs), whole(r.Subst)}
	for _, s := range r.States[:cap(r.States)] {
		l = append(l, s.Kind, whole(s.From))
	}
	return l
}

// fill writes over a list, its spare room too.
func fill[T any](l []T, with T) {
	l = l[:cap(l)]
	for k := range l {
		l[k] = with
	}
}

// What is handed in is not changed, nor its spare room; what is answered is new memory, and hangs on what is handed in alone (R5, R6).
func TestHandedInStays(t *testing.T) {
	for seed := range uint64(1000) {
		m := newMaker(seed)
		r := m.wild(m.size())
		want := made(t, r, 9)
		r.Defs, r.Subst, r.States = roomy(r.Defs, api.Def{Op: 77}), roomy(r.Subst, 77), roomy(r.States, state(77, 7, 7))
		for k := range r.States {
			r.States[k].From = roomy(r.States[k].From, api.Edge{State: 77, Cost: 77})
		}
		before := lookAt(r)
		got, e := gen.Generate(r, 9)
		if e != api.OK || !sameCode(got, want) {
			t.Fatalf("R6: %+v, %v, not %+v", got, e, want)
		}
		fill(got.Table, 55)
		if !slices.Equal(got.Consts, want.Consts) {
			t.Fatalf("R5: Table and Consts share memory: %+v of %+v", got, r)
		}
		fill(got.Consts, 55)
		fill(got.Cell, api.Instr{Op: 55})
		fill(got.Arrows, api.Arrow{Plane: 55})
		if !reflect.DeepEqual(before, lookAt(r)) {
			t.Fatalf("R5: changed %+v, or shares its memory", r)
		}
		if again, e := gen.Generate(r, 9); e != api.OK || !sameCode(again, want) {
			t.Fatalf("R6: %+v, %v, not %+v", again, e, want)
		}
		// The code stays when the recurrence is written over.
		got, _ = gen.Generate(r, 9)
		for _, s := range r.States {
			fill(s.From, api.Edge{State: 55, Cost: 55})
		}
		fill(r.States, state(55))
		fill(r.Defs, api.Def{Op: 55})
		fill(r.Subst, 55)
		if !sameCode(got, want) {
			t.Fatalf("R5: it hangs on the recurrence: %+v, not %+v", got, want)
		}
	}
}

// A nil list and an empty one are the same (R4).
func TestEmptyLists(t *testing.T) {
	r := of([]int{1}, state(1, -1, -1), state(2))
	want := made(t, r, 5)
	r.States[1].From = []api.Edge{}
	if c := made(t, r, 5); !sameCode(c, want) {
		t.Errorf("R4: %+v, not %+v", c, want)
	}
	r.States = nil
	want = made(t, r, 5)
	r.States = []api.State{}
	if c := made(t, r, 5); !sameCode(c, want) {
		t.Errorf("R4: %+v, not %+v", c, want)
	}
	refused(t, "empty lists", api.Recur{Letters: 2, Defs: []api.Def{}, Subst: []int{}, Begin: 1, End: 1, States: []api.State{}}, 5, api.ErrRecur)
}

// Any recurrence and any most: the call ends, with the error that comes first, or a code that may run (R1).
func TestAnything(t *testing.T) {
	count := map[api.Errno]int{}
	for seed := range uint64(20000) {
		m := newMaker(seed)
		r := m.wild(m.size())
		for range m.IntN(3) {
			l := []*int{&r.Letters, &r.Begin, &r.End, &r.Front, &r.Back, &r.Lo, &r.Hi, &r.Subst[0]}
			for k := range r.Defs {
				l = append(l, &r.Defs[k].Num, &r.Defs[k].Num)
			}
			for k := range r.States {
				l = append(l, &r.States[k].Kind)
				for e := range r.States[k].From {
					l = append(l, &r.States[k].From[e].State, &r.States[k].From[e].Cost)
				}
			}
			*l[m.IntN(len(l))] = []int{-2, -1, 0, 1, 2, 3, 9, 21, 1 << 50, 1 << 57, -1 << 57, 1<<57 + 1, math.MaxInt, math.MinInt}[m.IntN(14)]
		}
		if m.IntN(6) == 0 {
			r.Defs = append(r.Defs, api.Def{Op: 1 + m.IntN(8), A: m.IntN(3), B: m.IntN(3)})
		}
		most := []int{math.MinInt, -1, 0, 1, 2, 3, 5, 500, 600, 65536, 65537, math.MaxInt}[m.IntN(12)]
		want := plainError(r, most)
		count[want]++
		if want != api.OK {
			refused(t, "of many", r, most, want)
			continue
		}
		x, y := m.sequences(r, min(most+1, 6))
		says(t, r, made(t, r, most), x, y)
	}
	for _, e := range []api.Errno{api.OK, api.ErrRecur, api.ErrFolded, api.ErrArg, api.ErrTooLong} {
		if count[e] < 100 {
			t.Error("of too few kinds", e, count)
		}
	}
}
