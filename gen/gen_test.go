package gen_test

import (
	"math"
	"reflect"
	"slices"
	"strings"
	"testing"

	"helix/api"
	"helix/check"
	"helix/code"
	"helix/eval"
	"helix/gen"
	"helix/machine"
	"helix/passes"
	"helix/recur"
	"helix/syntax"
	"helix/trace"
	"helix/verify"
)

// nums are definitions of numbers.
func nums(numbers ...int) []api.Def {
	var l []api.Def
	for _, n := range numbers {
		l = append(l, api.Def{Op: api.DefNum, Num: n})
	}
	return l
}

// state is one of a kind, with edges of a State and a Cost each.
func state(kind int, edges ...int) api.State {
	s := api.State{Kind: kind}
	for k := 0; k < len(edges); k += 2 {
		s.From = append(s.From, api.Edge{State: edges[k], Cost: edges[k+1]})
	}
	return s
}

// of is a right recurrence of two letters, from any cell to any, whose definitions are numbers, 0 the first, and so the only one that Subst, Front and Back have.
func of(numbers []int, states ...api.State) api.Recur {
	return api.Recur{Letters: 2, Defs: nums(append([]int{0}, numbers...)...), Subst: []int{0, 0, 0, 0}, Begin: 3, End: 3, States: states}
}

// numbersOf are those of Subst.
func numbersOf(r api.Recur) []int {
	var l []int
	for _, place := range r.Subst {
		l = append(l, r.Defs[place].Num)
	}
	return l
}

// made holds Generate to what P19.1, P19.2, P19.4 and P19.5 say of the code itself, and tells it.
func made(t *testing.T, r api.Recur, most int) api.Code {
	t.Helper()
	if plain := plainError(r, most); plain != api.OK {
		t.Fatalf("the test's own reading: %v of %+v, %d", plain, r, most)
	}
	c, e := gen.Generate(r, most)
	if e != api.OK {
		t.Fatalf("P19.1: Generate of %+v, %d: %v", r, most, e)
	}
	lo, hi := plainBand(r)
	if c.Letters != r.Letters || c.Most != most || !slices.Equal(c.Table, numbersOf(r)) || c.Lo != lo || c.Hi != hi {
		t.Fatalf("P19.1: Generate of %+v, %d: %+v", r, most, c)
	}
	if at, e := verify.Check(c); at != -1 || e != api.OK {
		t.Fatalf("P19.2: of %+v, %d: %d, %v of %+v", r, most, at, e, c)
	}
	text, e := code.Encode(c)
	if e != api.OK {
		t.Fatalf("P19.2: of %+v, %d: %v of %+v", r, most, e, c)
	}
	if back, e := code.Decode(text); e != api.OK || !sameCode(back, c) {
		t.Fatalf("P19.2: of %+v, %d: read back: %+v, %v, not %+v", r, most, back, e, c)
	}
	if len(c.Cell) > 64*(len(r.States)+1) {
		t.Fatalf("P19.4: of %+v, %d: %d instructions", r, most, len(c.Cell))
	}
	if again, _ := gen.Generate(r, most); !sameCode(again, c) {
		t.Fatalf("P19.5: of %+v, %d: %+v, and then %+v", r, most, c, again)
	}
	return c
}

// sameCode holds lists without asking whether they are nil or empty.
func sameCode(a, b api.Code) bool {
	return a.Letters == b.Letters && a.Planes == b.Planes && a.Regs == b.Regs && a.Lo == b.Lo && a.Hi == b.Hi && a.Most == b.Most &&
		slices.Equal(a.Table, b.Table) && slices.Equal(a.Consts, b.Consts) && slices.Equal(a.Cell, b.Cell) && slices.Equal(a.Arrows, b.Arrows)
}

// runs is what a run of a code, and the walk back, tell.
func runs(c api.Code, x, y []int) (api.Found, int, api.Errno) {
	table, e := machine.Run(c, x, y)
	if e != api.OK {
		return api.Found{}, 0, e
	}
	f, e := trace.Walk(table)
	return f, table.Steps(), e
}

// says holds a recurrence's code to tell of two sequences what Eval tells (P19.3), in so many steps at most (P19.4).
func says(t *testing.T, r api.Recur, c api.Code, x, y []int) (api.Found, api.Errno) {
	t.Helper()
	want, e := eval.Eval(r, x, y)
	got, steps, g := runs(c, x, y)
	if got != want || g != e {
		t.Fatalf("P19.3: %v, %v, not %v, %v: %+v of %+v, %v, %v", got, g, want, e, c, r, x, y)
	}
	if most := 64 * (len(x) + 1) * (len(y) + 1) * (len(r.States) + 1); steps > most {
		t.Fatalf("P19.4: %d steps, more than %d: %+v of %+v, %v, %v", steps, most, c, r, x, y)
	}
	return got, e
}

// refused holds a recurrence to have no code.
func refused(t *testing.T, what string, r api.Recur, most int, want api.Errno) {
	t.Helper()
	if plain := plainError(r, most); plain != want {
		t.Fatalf("the test's own reading: %s: %v, not %v", what, plain, want)
	}
	if c, e := gen.Generate(r, most); e != want || !reflect.DeepEqual(c, api.Code{}) {
		t.Errorf("P19.1: %s: %+v, %v, not %v", what, c, e, want)
	}
}

// lowered is the recurrence of a source.
func lowered(t *testing.T, source string) api.Recur {
	t.Helper()
	tree, fault := syntax.Parse(source)
	if fault.Code != api.OK {
		t.Fatal(source, fault)
	}
	s, fault := check.Check(tree)
	if fault.Code != api.OK {
		t.Fatal(source, fault)
	}
	r, e := recur.Lower(s)
	if e != api.OK {
		t.Fatal(source, e)
	}
	return r
}

// passed is the recurrence of a source, made smaller.
func passed(t *testing.T, source string) api.Recur {
	t.Helper()
	r, e := passes.All(lowered(t, source))
	if e != api.OK {
		t.Fatal(source, e)
	}
	return r
}

// seq is a text of ACGT as a sequence.
func seq(s string) []int {
	var l []int
	for _, c := range []byte(s) {
		l = append(l, strings.IndexByte("ACGT", c))
	}
	return l
}

const schemeE = `alphabet "ACGT"; match 2; mismatch -3; gap 4, 1; mode global;`

// The chapter's examples.
func TestExamples(t *testing.T) {
	r := passed(t, schemeE)
	c := made(t, r, 100)
	if f, e := says(t, r, c, seq("ACGT"), seq("AGT")); e != api.OK || f != (api.Found{Score: 1, Path: api.Path{Columns: "MDMM"}}) {
		t.Error(f, e)
	}
	if f, _, e := runs(c, make([]int, 101), nil); e != api.ErrTooLong || f != (api.Found{}) {
		t.Error(f, e)
	}
	refused(t, "not folded", lowered(t, schemeE), 100, api.ErrFolded)
	refused(t, "most below 0", r, -1, api.ErrArg)
}

// DOC.md's examples of the whole.
func TestExamplesOfTheWhole(t *testing.T) {
	const letters, gap = `alphabet "ACGT"; match 2; mismatch -3;`, " gap 4, 1;"
	for _, want := range []struct {
		scheme, x, y string
		score, i, j  int
		columns      string
	}{
		{gap + " mode global;", "ACGT", "ACGT", 8, 0, 0, "MMMM"},
		{gap + " mode global;", "ACGT", "AGT", 1, 0, 0, "MDMM"},
		{gap + " mode global;", "ACGT", "", -8, 0, 0, "DDDD"},
		{gap + " mode global;", "", "", 0, 0, 0, ""},
		{gap + " mode local;", "AAACGTAAA", "TTCGTTT", 6, 3, 2, "MMM"},
		{gap + " mode fit;", "TTACGTTT", "ACG", 6, 2, 0, "MMM"},
		{gap + " mode extend; clip 0, 5;", "ACGA", "ACGT", 3, 0, 0, "MMMM"},
		{" gap 1, 3; gap 10, 0; mode global;", "ACG", "", -10, 0, 0, "DDD"},
		{" gap 1, 3; gap 10, 0; mode global;", "", "ACGT", -10, 0, 0, "IIII"},
	} {
		r := passed(t, letters+want.scheme)
		f, e := says(t, r, made(t, r, 9), seq(want.x), seq(want.y))
		if e != api.OK || f != (api.Found{Score: want.score, Path: api.Path{I: want.i, J: want.j, Columns: want.columns}}) {
			t.Errorf("%s of %s and %s: %v, %v", want.scheme, want.x, want.y, f, e)
		}
	}
	r := passed(t, letters+gap+" mode global; band 0 .. 0;")
	if f, e := says(t, r, made(t, r, 9), seq("ACGT"), seq("AGT")); e != api.ErrNoAlignment {
		t.Error("the corner lies off the band", f, e)
	}
}

// A band stands in the code as it is, but for what lies beyond all diagonals.
func TestBands(t *testing.T) {
	for _, b := range [][2]int{
		{0, 0}, {-3, 5}, {2, 7}, {-7, -2}, {-65536, 65536}, {-65537, 65537}, {-65538, 65538}, {math.MinInt, math.MaxInt}, {-1 << 56, 1 << 56},
		{65536, 65536}, {65537, 65537}, {65538, 65538}, {70000, 80000}, {math.MaxInt, math.MaxInt}, {65536, 70000},
		{-65537, -65537}, {-65538, -65538}, {-80000, -70000}, {math.MinInt, math.MinInt}, {-70000, -65536}, {math.MinInt, 3}, {-3, math.MaxInt},
	} {
		r := of([]int{1}, state(1, -1, -1, 0, -1), state(2, -1, 1, 0, 1, 1, 1), state(3, -1, 1, 0, 1, 2, 1))
		r.Banded, r.Lo, r.Hi = true, b[0], b[1]
		c := made(t, r, 70)
		for seed := range uint64(20) {
			x, y := newMaker(seed).sequences(r, 12)
			says(t, r, c, x, y)
		}
		// The longest sequences of all reach the outermost diagonals; none reaches those beyond.
		c = made(t, r, 65536)
		for _, letters := range [][2]int{{0, 65536}, {65536, 0}, {0, 65535}, {65535, 0}} {
			x, y := make([]int, letters[0]), make([]int, letters[1])
			says(t, r, c, x, y)
		}
	}
	if c := made(t, of(nil), 5); c.Lo != -65536 || c.Hi != 65536 {
		t.Error("P19.1: without a band", c)
	}
}

// As many letters as are asked for, and no more, are taken.
func TestMost(t *testing.T) {
	r := of([]int{1}, state(1, -1, -1, 0, -1), state(2, 0, 1, 1, 1))
	for _, most := range []int{0, 1, 2, 3, 99, 1000, 65535, 65536} {
		c := made(t, r, most)
		says(t, r, c, make([]int, most), nil)
		says(t, r, c, nil, make([]int, most))
		says(t, r, c, make([]int, min(most, 5)), make([]int, min(most, 5)))
		for _, l := range [][2]int{{most + 1, 0}, {0, most + 1}, {most + 1, most + 1}} {
			if f, _, e := runs(c, make([]int, l[0]), make([]int, l[1])); e != api.ErrTooLong || f != (api.Found{}) {
				t.Errorf("P19.1: %d and %d letters of %d: %v, %v", l[0], l[1], most, f, e)
			}
		}
	}
	for _, most := range []int{-1, -2, 65537, 65538, 1 << 40, math.MaxInt, math.MinInt} {
		refused(t, "most", r, most, api.ErrArg)
	}
}

// What is wrong is told in the order of the promise.
func TestErrorsInOrder(t *testing.T) {
	const great = 1 << 57
	right := of([]int{great}, state(1, -1, 1))
	refused(t, "nothing", api.Recur{}, 1, api.ErrRecur)
	for _, most := range []int{-1, 0, 5, 65536, 65537} {
		wrong := of([]int{great}, state(1, -1, 2))
		wrong.Defs = append(wrong.Defs[:1:1], api.Def{Op: api.DefNeg, A: 1})
		refused(t, "not right", wrong, most, api.ErrRecur)
		made := right
		made.Defs = append(made.Defs[:2:2], api.Def{Op: api.DefNeg, A: 1})
		refused(t, "not folded", made, most, api.ErrFolded)
		made.Defs = nums(0)
		made.Defs = append(made.Defs, api.Def{Op: api.DefAdd})
		refused(t, "not folded", made, most, api.ErrFolded)
	}
	refused(t, "most, and great numbers", right, -1, api.ErrArg)
	refused(t, "most, and great numbers", right, 65537, api.ErrArg)
	refused(t, "great numbers", right, 65536, api.ErrTooLong)
}

func TestWrongRecurrences(t *testing.T) {
	for what, change := range map[string]func(r *api.Recur){
		"one letter":         func(r *api.Recur) { r.Letters, r.Subst = 1, make([]int, 1) },
		"21 letters":         func(r *api.Recur) { r.Letters, r.Subst = 21, make([]int, 441) },
		"no letters":         func(r *api.Recur) { r.Letters, r.Subst = 0, nil },
		"letters below 0":    func(r *api.Recur) { r.Letters = -2 },
		"too many letters":   func(r *api.Recur) { r.Letters = math.MaxInt },
		"no Subst":           func(r *api.Recur) { r.Subst = nil },
		"a long Subst":       func(r *api.Recur) { r.Subst = make([]int, 5) },
		"Subst outside":      func(r *api.Recur) { r.Subst[3] = 2 },
		"Subst below":        func(r *api.Recur) { r.Subst[0] = -1 },
		"no Defs":            func(r *api.Recur) { r.Defs = nil },
		"a wrong Op":         func(r *api.Recur) { r.Defs[0].Op = 8 },
		"no Op":              func(r *api.Recur) { r.Defs[0].Op = 0 },
		"too great a number": func(r *api.Recur) { r.Defs[0].Num = 1<<57 + 1 },
		"5005 Defs":          func(r *api.Recur) { r.Defs = slices.Repeat(nums(0), 5005) },
		"no Begin":           func(r *api.Recur) { r.Begin = 0 },
		"a wrong Begin":      func(r *api.Recur) { r.Begin = 4 },
		"no End":             func(r *api.Recur) { r.End = 0 },
		"a wrong End":        func(r *api.Recur) { r.End = 4 },
		"Front outside":      func(r *api.Recur) { r.Front = 2 },
		"Back outside":       func(r *api.Recur) { r.Back = -1 },
		"Front below 0":      func(r *api.Recur) { r.Defs[1].Num, r.Front = -1, 1 },
		"Back below 0":       func(r *api.Recur) { r.Defs[1].Num, r.Back = -1, 1 },
		"a band turned":      func(r *api.Recur) { r.Banded, r.Lo = true, 1 },
		"a band of none":     func(r *api.Recur) { r.Hi = 1 },
		"a wrong Kind":       func(r *api.Recur) { r.States[0].Kind = 4 },
		"no Kind":            func(r *api.Recur) { r.States[0].Kind = 0 },
		"ten states":         func(r *api.Recur) { r.States = slices.Repeat([]api.State{state(1)}, 10) },
		"a Cost outside":     func(r *api.Recur) { r.States[0].From[0].Cost = 2 },
		"a Cost below":       func(r *api.Recur) { r.States[0].From[0].Cost = -2 },
		"a State outside":    func(r *api.Recur) { r.States[0].From[1].State = 1 },
		"a State below":      func(r *api.Recur) { r.States[0].From[0].State = -2 },
		"edges that fall":    func(r *api.Recur) { r.States[0] = state(1, 0, -1, -1, -1) },
		"edges alike":        func(r *api.Recur) { r.States[0] = state(1, 0, -1, 0, -1) },
	} {
		r := of([]int{1}, state(1, -1, -1, 0, -1))
		change(&r)
		refused(t, what, r, 5, api.ErrRecur)
		refused(t, what, r, -1, api.ErrRecur)
	}
}
