package passes_test

import (
	"math"
	"slices"
	"testing"

	"helix/api"
	"helix/check"
	"helix/passes"
	"helix/recur"
	"helix/syntax"
)

// pass is one of the package's calls, with its plain reading.
type pass struct {
	name, promise string
	do            func(r api.Recur) (api.Recur, api.Errno)
	plain         func(r api.Recur) api.Recur
}

var (
	fold  = pass{"Fold", "P14.1", passes.Fold, plainFold}
	prune = pass{"Prune", "P14.2", passes.Prune, plainPrune}
	drop  = pass{"Drop", "P14.3", passes.Drop, plainDrop}
	clamp = pass{"Clamp", "P14.4", passes.Clamp, plainClamp}
	all   = pass{"All", "P14.5", passes.All, plainAll}
)

func everyPass() []pass { return []pass{fold, prune, drop, clamp, all} }

// nums are definitions of numbers.
func nums(numbers ...int) []api.Def {
	var l []api.Def
	for _, n := range numbers {
		l = append(l, api.Def{Op: api.DefNum, Num: n})
	}
	return l
}

// state is one of a kind, with edges of a State and a Cost each.
func state(kind int, edges ...int) api.State {
	s := api.State{Kind: kind}
	for k := 0; k < len(edges); k += 2 {
		s.From = append(s.From, api.Edge{State: edges[k], Cost: edges[k+1]})
	}
	return s
}

// of is a right recurrence of two letters whose definitions are numbers, 0 the first, and so the only one that Subst, Front and Back have.
func of(numbers []int, states ...api.State) api.Recur {
	return api.Recur{Letters: 2, Defs: nums(append([]int{0}, numbers...)...), Subst: []int{0, 0, 0, 0}, Begin: 3, End: 3, States: states}
}

// sameState and sameRecur hold lists without asking whether they are nil or empty.
func sameState(a, b api.State) bool { return a.Kind == b.Kind && slices.Equal(a.From, b.From) }

func sameRecur(a, b api.Recur) bool {
	return a.Letters == b.Letters && slices.Equal(a.Defs, b.Defs) && slices.Equal(a.Subst, b.Subst) &&
		a.Begin == b.Begin && a.End == b.End && a.Front == b.Front && a.Back == b.Back &&
		a.Banded == b.Banded && a.Lo == b.Lo && a.Hi == b.Hi && slices.EqualFunc(a.States, b.States, sameState)
}

// short leaves out most of a long list of definitions, so that what a test tells can be read.
func short(r api.Recur) api.Recur {
	if len(r.Defs) > 30 {
		r.Defs = r.Defs[:30]
	}
	return r
}

// makes holds a pass to what it tells of a right recurrence; so does the plain reading.
func makes(t *testing.T, p pass, r, want api.Recur) {
	t.Helper()
	if plain := p.plain(r); !sameRecur(plain, want) {
		t.Fatalf("the test's own reading: %s of %+v: %+v, not %+v", p.name, short(r), short(plain), short(want))
	}
	if got, e := p.do(r); e != api.OK || !sameRecur(got, want) {
		t.Errorf("%s: %s of %+v: %+v, %v, not %+v", p.promise, p.name, short(r), short(got), e, short(want))
	}
}

// leaves holds a pass to turn nothing but that these states are left, by the numbers that they had.
func leaves(t *testing.T, p pass, r api.Recur, kept ...int) {
	t.Helper()
	makes(t, p, r, plainWithout(r, func(s int) bool { return slices.Contains(kept, s) }))
}

// leavesAll holds a pass to turn nothing.
func leavesAll(t *testing.T, p pass, r api.Recur) {
	t.Helper()
	makes(t, p, r, r)
}

// lowered is the recurrence of a source.
func lowered(t *testing.T, source string) api.Recur {
	t.Helper()
	tree, fault := syntax.Parse(source)
	if fault.Code != api.OK {
		t.Fatal(source, fault)
	}
	s, fault := check.Check(tree)
	if fault.Code != api.OK {
		t.Fatal(source, fault)
	}
	r, e := recur.Lower(s)
	if e != api.OK {
		t.Fatal(source, e)
	}
	return r
}

// withGaps is the recurrence of a scheme of some pieces.
func withGaps(t *testing.T, gaps string) api.Recur {
	t.Helper()
	return lowered(t, `alphabet "AC"; match 1; mismatch 0; mode local; `+gaps)
}

// The chapter's examples.
func TestExamples(t *testing.T) {
	r := of(nil)
	r.Defs = append(nums(2, 2), api.Def{Op: api.DefAdd, A: 0, B: 1})
	r.Subst = []int{2, 2, 2, 2}
	want := of(nil)
	want.Defs, want.Subst = nums(2, 4), []int{1, 1, 1, 1}
	makes(t, fold, r, want)
	leaves(t, prune, withGaps(t, "gap 1, 3; gap 10, 0; gap 4, 3;"), 0, 1, 2, 4, 5)
	leaves(t, prune, withGaps(t, "gap 4, 2; gap 8, 1; gap 7, 1;"), 0, 1, 3, 4, 6)
	leavesAll(t, prune, withGaps(t, "gap 1, 4; gap 9, 0; gap 6, 1;"))
	leaves(t, drop, withGaps(t, "gap 1, 1; band 3 .. 3;"), 0)
	band := func(banded bool, lo, hi int) api.Recur {
		r := withGaps(t, "gap 1, 1;")
		r.Banded, r.Lo, r.Hi = banded, lo, hi
		return r
	}
	makes(t, clamp, band(true, -70000, 5), band(true, -65536, 5))
	makes(t, clamp, band(true, -70000, 70000), band(false, 0, 0))
	makes(t, clamp, band(true, 70000, 80000), band(true, 65537, 65537))
}

// A state's edges go with it, and those from it; the numbers behind it are less by one, wherever it stands.
func TestTakeAway(t *testing.T) {
	r := of([]int{1, 2, 3},
		state(1, -1, -1, 0, 0, 1, 1, 2, 2, 3, 3),
		state(1, 1, 1),
		state(1, -1, 2, 0, 1, 1, 3, 3, 0),
		state(1, 1, 1, 2, 2))
	want := of([]int{1, 2, 3},
		state(1, -1, -1, 0, 0, 1, 2, 2, 3),
		state(1, -1, 2, 0, 1, 2, 0),
		state(1, 1, 2))
	makes(t, drop, r, want)
	// The first one.
	makes(t, drop, of(nil, state(1, 0, 0), state(1, -1, 0, 0, 0, 1, 0, 2, 0), state(2, 0, 0, 1, 0)),
		of(nil, state(1, -1, 0, 0, 0, 1, 0), state(2, 0, 0)))
	// The last one; several; all.
	makes(t, drop, of(nil, state(1, -1, 0, 2, 0), state(2, 0, 0, 2, 0), state(3, 2, 0)), of(nil, state(1, -1, 0), state(2, 0, 0)))
	makes(t, drop, of(nil, state(1), state(2, -1, 0, 0, 0, 2, 0, 3, 0), state(3), state(1, 0, 0, 1, 0, 2, 0, 3, 0), state(1, 4, 0)),
		of(nil, state(2, -1, 0, 1, 0), state(1, 0, 0, 1, 0)))
	makes(t, drop, of(nil, slices.Repeat([]api.State{state(1, 0, 0, 8, 0)}, 9)...), of(nil))
}

// Fold keeps the numbers that are named, wherever they are, and no others.
func TestFold(t *testing.T) {
	// Each place has a number of its own, made in all ways; one more is not named.
	r := api.Recur{Letters: 2, Begin: 1, End: 2, Banded: true, Lo: -3, Hi: 9, Front: 3, Back: 9, Subst: []int{7, 4, 5, 6},
		Defs: []api.Def{
			{Op: api.DefNum, Num: 7}, {Op: api.DefNum, Num: -3}, {Op: api.DefNeg, A: 0}, {Op: api.DefSub, A: 0, B: 1}, {Op: api.DefMul, A: 0, B: 1},
			{Op: api.DefMin, A: 0, B: 1}, {Op: api.DefMax, A: 0, B: 1}, {Op: api.DefAdd, A: 0, B: 1}, {Op: api.DefNum, Num: 99}, {Op: api.DefNum, Num: 1}, {Op: api.DefNum, Num: -50},
		},
		States: []api.State{state(1, -1, -1, 0, 10), state(3, 0, 2, 1, -1)},
	}
	want := copied(r)
	want.Defs = nums(-50, -21, -7, -3, 1, 4, 7, 10)
	want.Front, want.Back, want.Subst = 7, 4, []int{5, 1, 3, 6}
	want.States = []api.State{state(1, -1, -1, 0, 0), state(3, 0, 2, 1, -1)}
	makes(t, fold, r, want)
	leavesAll(t, fold, want)
	// One number that all name, at many places, is one; 0 of no cost is not named.
	r = of([]int{5, 5, 5, 0, 5}, state(1, -1, -1, 0, 2), state(2, 0, 3, 1, 5))
	r.Front, r.Back, r.Subst = 5, 2, []int{1, 2, 3, 5}
	want = of(nil, state(1, -1, -1, 0, 0), state(2, 0, 0, 1, 0))
	want.Defs = nums(5)
	makes(t, fold, r, want)
	// A cost of 0 that is named is.
	r.States[0].From[0].Cost = 0
	want.Defs, want.Front, want.Back, want.Subst = nums(0, 5), 1, 1, []int{1, 1, 1, 1}
	want.States = []api.State{state(1, -1, 0, 0, 1), state(2, 0, 1, 1, 1)}
	makes(t, fold, r, want)
}

// Fold at limits: as many definitions, letters, states and edges as there may be, the greatest numbers.
func TestFoldAtLimits(t *testing.T) {
	r := of([]int{1 << 57, -1 << 57, 1 << 57, -1 << 57, 1<<57 - 1}, state(1, -1, 3, 0, 4))
	r.Front, r.Back, r.Subst = 1, 3, []int{5, 4, 2, 0}
	want := of(nil, state(1, -1, 3, 0, 0))
	want.Defs = nums(-1<<57, 0, 1<<57-1, 1<<57)
	want.Front, want.Back, want.Subst = 3, 3, []int{2, 0, 0, 1}
	makes(t, fold, r, want)
	r = of(nil)
	r.Letters, r.Subst, r.Defs = 20, make([]int, 400), make([]api.Def, 5004)
	for k := range r.Defs {
		r.Defs[k] = nums(7 * (5003 - k))[0]
	}
	for k := range r.Subst {
		r.Subst[k] = 12 * k
	}
	r.Front, r.Back = 5003, 5001
	for s := range 9 {
		r.States = append(r.States, state(1+s%3))
		for from := -1; from < 9; from++ {
			r.States[s].From = append(r.States[s].From, api.Edge{State: from, Cost: 1 + 12*(10*s+from+1)})
		}
	}
	got, e := passes.Fold(r)
	if e != api.OK || len(got.Defs) != 492 || !sameRecur(got, plainFold(r)) || got.Front != 0 || got.Back != 1 || got.Subst[0] != 491 {
		t.Errorf("P14.1: of as much as may be: %d definitions, %v", len(got.Defs), e)
	}
}

// gapsOf is a recurrence of a match state and of gap states of one kind, each with an opening and a going on (which is all of its definitions).
func gapsOf(kind int, costs ...int) api.Recur {
	n := len(costs) / 2
	match := state(1)
	for from := -1; from <= n; from++ {
		match.From = append(match.From, api.Edge{State: from, Cost: -1})
	}
	r := of(costs, match)
	for k := range n {
		r.States = append(r.States, state(kind, -1, 1+2*k, 0, 1+2*k, k+1, 2+2*k))
	}
	return r
}

// What a gap costs at each length decides, by one twin or by several.
func TestPruneByCosts(t *testing.T) {
	for _, c := range []struct{ costs, kept []int }{
		{[]int{5, 1}, []int{0, 1}},
		{[]int{5, 1, 5, 1}, []int{0, 1}},       // the last of alike ones goes
		{[]int{5, 1, 5, 1, 5, 1}, []int{0, 1}}, // one of them is left
		{[]int{5, 1, 6, 1}, []int{0, 1}},
		{[]int{6, 1, 5, 1}, []int{0, 2}},
		{[]int{5, 1, 5, 2}, []int{0, 1}},
		{[]int{5, 2, 5, 1}, []int{0, 2}},
		{[]int{5, 1, 6, 2}, []int{0, 1}},
		{[]int{5, 2, 6, 1}, []int{0, 1, 2}},
		{[]int{6, 1, 5, 2}, []int{0, 1, 2}},
		{[]int{5, 2, 6, 1, 6, 2}, []int{0, 1, 2}},
		{[]int{6, 2, 5, 2, 6, 1}, []int{0, 2, 3}},
		// Two serve, one up to a length, one from a length on: just meeting, with a gap of one length, over each other.
		{[]int{4, 3, 16, 1, 11, 2}, []int{0, 1, 2}},    // up to k = 8, from k = 6 on
		{[]int{4, 3, 22, 0, 10, 2}, []int{0, 1, 2}},    // up to k = 7, from k = 7 on
		{[]int{4, 3, 23, 0, 10, 2}, []int{0, 1, 2}},    // from k = 8 on, as is the next
		{[]int{4, 3, 24, 0, 10, 2}, []int{0, 1, 2}},    // k = 7: 22, 24 against 22; k = 8: 25, 24 against 24
		{[]int{4, 3, 25, 0, 10, 2}, []int{0, 1, 2, 3}}, // k = 8: 25, 25 against 24
		{[]int{3, 4, 25, 0, 10, 2}, []int{0, 1, 2, 3}}, // up to k = 4
		{[]int{10, 2, 4, 3, 24, 0}, []int{0, 2, 3}},
		{[]int{4, 3, 10, 2, 24, 0}, []int{0, 1, 3}},
		{[]int{24, 0, 10, 2, 4, 3}, []int{0, 1, 3}},
		{[]int{0, 5, 9, 4, 4, 4}, []int{0, 1, 3}},
		// Twins that serve at no length, or at the first alone.
		{[]int{5, 2, 4, 2, 4, 1, 3, 9}, []int{0, 3, 4}},
		{[]int{0, 9, 1, 0, 0, 8}, []int{0, 1, 2}},
		{[]int{0, 9, 8, 0, 0, 8}, []int{0, 1, 2}},
		{[]int{0, 9, 9, 0, 0, 8}, []int{0, 2, 3}},
		{[]int{0, 9, 9, 0, 1, 8}, []int{0, 1, 2}},
		{[]int{0, 9, 18, 0, 1, 8}, []int{0, 1, 2, 3}},
		{[]int{0, 9, 10, 0, 1, 9}, []int{0, 1, 2}},
		// Costs below 0.
		{[]int{-5, -2, -5, -1}, []int{0, 1}},
		{[]int{-5, -1, -6, -2}, []int{0, 2}},
		{[]int{-6, 1, 6, -1, 0, 0}, []int{0, 1, 2}},
		{[]int{-6, 1, 7, -1, 0, 0}, []int{0, 1, 2}},
		{[]int{-6, 1, 8, -1, 0, 0}, []int{0, 1, 2, 3}},
		{[]int{0, -1, 0, -2}, []int{0, 2}},
	} {
		for _, kind := range []int{api.KindDelete, api.KindInsert} {
			leaves(t, prune, gapsOf(kind, c.costs...), c.kept...)
		}
		leavesAll(t, prune, gapsOf(api.KindMatch, c.costs...))
	}
}

// Numbers as great as may be.
func TestPruneGreatNumbers(t *testing.T) {
	const great = 1 << 57
	for _, c := range []struct{ costs, kept []int }{
		{[]int{-great, great, great, -great}, []int{0, 1, 2}},
		{[]int{-great, great, great, -great, great, great}, []int{0, 1, 2}},
		{[]int{great, great, -great, -great}, []int{0, 2}},
		{[]int{-great, -great, great, great}, []int{0, 1}},
		{[]int{-great, great, great, -great, 0, 0}, []int{0, 1, 2}},
		{[]int{-great, great, great, -great, -1, 0}, []int{0, 1, 2, 3}},
		{[]int{-great, great, great, -great, -1, 1}, []int{0, 1, 2}},
		{[]int{-great, 1, great, 0, great - 1, 1}, []int{0, 1, 2}},
		{[]int{-great, 1, great, -1, 0, 0}, []int{0, 1, 2}},
		{[]int{-great, 1, great, -1, 0, -1}, []int{0, 1, 3}},
		{[]int{-great, 1, great, -1, -1, 0}, []int{0, 1, 2, 3}},
		{[]int{-great, 1, great, -1, 1, 0}, []int{0, 1, 2}},
		{[]int{great, 0, great, 1}, []int{0, 1}},
		{[]int{great, 0, great - 1, 1}, []int{0, 1, 2}},
		{[]int{great, 0, -great, 1}, []int{0, 1, 2}},
	} {
		leaves(t, prune, gapsOf(api.KindDelete, c.costs...), c.kept...)
	}
}

// Which states are gap states: each of these would go, or serve another that would, if it were one.
func TestGapStates(t *testing.T) {
	costs := []int{1, 2, 9}
	match := state(1, -1, -1, 0, -1, 1, -1, 2, -1)
	cheap, dear := state(2, -1, 1, 0, 1, 1, 2), state(2, -1, 2, 0, 2, 2, 3)
	leaves(t, prune, of(costs, match, cheap, dear), 0, 1)
	leaves(t, prune, of(costs, match, state(2, -1, 3, 0, 3, 1, 3), state(2, -1, 1, 0, 1, 2, 2)), 0, 2)
	for what, s := range map[string]api.State{
		"no edge from itself":            state(2, -1, 2, 0, 2),
		"none but from itself":           state(2, 2, 3),
		"no edges":                       state(2),
		"other costs of the others":      state(2, -1, 2, 0, 3, 2, 3),
		"an other that costs nothing":    state(2, -1, -1, 0, 2, 2, 3),
		"the last of the others costs 0": state(2, -1, 2, 0, -1, 2, 3),
		"it is a match":                  state(1, -1, 2, 0, 2, 2, 3),
	} {
		r := of(costs, match, cheap, s)
		if got, e := passes.Prune(r); e != api.OK || !sameRecur(got, r) || !sameRecur(plainPrune(r), r) {
			t.Errorf("P14.2: %s: %+v, %v", what, got, e)
		}
	}
	// The one that is left over must be one too.
	leavesAll(t, prune, of(costs, match, state(2, -1, 0, 0, 0), dear))
	leavesAll(t, prune, of(costs, match, state(2, -1, 0, 0, -1, 1, 2, 2, 0), dear))
	leavesAll(t, prune, of(costs, match, state(2, -1, 0, 0, 1, 1, 0), dear))
	leavesAll(t, prune, of(costs, match, state(1, -1, 1, 0, 1, 1, 2), dear))
	leavesAll(t, prune, of(costs, match, state(3, -1, 1, 0, 1, 1, 2), dear))
	// No cost is 0, as a number that is 0 is; several definitions of a number are the same.
	leaves(t, prune, of([]int{0, 9, 0}, match, state(2, -1, -1, 0, 1, 1, 3), state(2, -1, 0, 0, 3, 2, -1)), 0, 1)
	leaves(t, prune, of([]int{4, 4, 9}, match, state(2, -1, 1, 0, 2, 1, 3), state(2, -1, 2, 0, 1, 2, 3)), 0, 1)
	leaves(t, prune, of([]int{-1, 4}, match, state(2, -1, 2, 0, 2, 1, 1), state(2, -1, 2, 0, 2, 2, -1)), 0, 1)
	leaves(t, prune, of([]int{-1, 4}, match, state(2, -1, 2, 0, 2, 1, -1), state(2, -1, 2, 0, 2, 2, 1)), 0, 2)
	leaves(t, prune, of([]int{-1, 4}, match, state(2, -1, -1, 0, -1, 1, -1), state(2, -1, 1, 0, 1, 2, -1)), 0, 2)
	// One other is enough: the beginning, or a state.
	leaves(t, prune, of(costs, match, state(2, -1, 1, 1, 2), state(2, -1, 2, 2, 3)), 0, 1)
	leaves(t, prune, of(costs, match, state(2, 0, 1, 1, 2), state(2, 0, 2, 2, 3)), 0, 1)
	leaves(t, prune, of(costs, state(2, -1, 1, 0, 2), state(2, -1, 2, 1, 3)), 0)
}

// Which gap states are twins: the second of these would go, if they were.
func TestTwins(t *testing.T) {
	costs := []int{1, 2, 9}
	match := state(1, -1, -1, 0, -1, 1, -1, 2, -1, 3, -1)
	cheap, dear := state(2, -1, 1, 0, 1, 1, 2, 3, 1), state(2, -1, 2, 0, 2, 2, 3, 3, 2)
	other := state(3, -1, 2, 0, 2, 1, 2, 2, 2, 3, 3)
	leaves(t, prune, of(costs, match, cheap, dear, other), 0, 1, 3)
	for what, states := range map[string][]api.State{
		"of two kinds":                  {match, cheap, state(3, dearEdges()...), other},
		"an edge from the first":        {match, cheap, state(2, -1, 2, 0, 2, 1, 2, 2, 3, 3, 2), other},
		"an edge from the second":       {match, state(2, -1, 1, 0, 1, 1, 2, 2, 1, 3, 1), dear, other},
		"edges from each other":         {match, state(2, -1, 1, 0, 1, 1, 2, 2, 1, 3, 1), state(2, -1, 2, 0, 2, 1, 2, 2, 3, 3, 2), other},
		"the first alone from -1":       {match, cheap, state(2, 0, 2, 2, 3, 3, 2), other},
		"the second alone from -1":      {match, state(2, 0, 1, 1, 2, 3, 1), dear, other},
		"the first alone from 0":        {match, cheap, state(2, -1, 2, 2, 3, 3, 2), other},
		"the second alone from 0":       {match, state(2, -1, 1, 1, 2, 3, 1), dear, other},
		"the first alone from 3":        {match, cheap, state(2, -1, 2, 0, 2, 2, 3), other},
		"the second alone from 3":       {match, state(2, -1, 1, 0, 1, 1, 2), dear, other},
		"as many, from others":          {match, state(2, -1, 1, 0, 1, 1, 2), state(2, -1, 2, 2, 3, 3, 2), other},
		"0 from the first alone":        {state(1, -1, -1, 0, -1, 1, -1, 3, -1), cheap, dear, other},
		"0 from the second alone":       {state(1, -1, -1, 0, -1, 2, -1, 3, -1), cheap, dear, other},
		"3 from the first alone":        {match, cheap, dear, state(3, -1, 2, 0, 2, 1, 2, 3, 3)},
		"3 from the second alone":       {match, cheap, dear, state(3, -1, 2, 0, 2, 2, 2, 3, 3)},
		"0 from both, at other costs":   {state(1, -1, -1, 0, -1, 1, -1, 2, 1, 3, -1), cheap, dear, other},
		"3 from both, at other costs":   {match, cheap, dear, state(3, -1, 2, 0, 2, 1, 1, 2, 2, 3, 3)},
		"3, the second costing nothing": {match, cheap, dear, state(3, -1, 2, 0, 2, 1, 1, 2, -1, 3, 3)},
	} {
		r := of(costs, states...)
		if got, e := passes.Prune(r); e != api.OK || !sameRecur(got, r) || !sameRecur(plainPrune(r), r) {
			t.Errorf("P14.2: %s: %+v, %v", what, got, e)
		}
	}
	// From neither, or from both at the same number, whatever its place: it may be no cost.
	leaves(t, prune, of(costs, state(1, -1, -1, 0, -1, 3, -1), cheap, dear, other), 0, 1, 3)
	leaves(t, prune, of(costs, state(1), cheap, dear, state(3, -1, 2)), 0, 1, 3)
	leaves(t, prune, of(costs, state(1, 1, 0, 2, -1), cheap, dear, state(3, 1, -1, 2, 0)), 0, 1, 3)
	same := of([]int{1, 2, 9, 2}, match, cheap, dear, state(3, -1, 2, 0, 2, 1, 4, 2, 2, 3, 3))
	leaves(t, prune, same, 0, 1, 3)
	// Edges from other states may cost what they will, as long as both come from there.
	leaves(t, prune, of(costs, match, state(2, -1, 2, 0, 2, 1, 3, 3, 2), state(2, -1, -1, 0, -1, 2, 3, 3, -1), other), 0, 2, 3)
}

func dearEdges() []int { return []int{-1, 2, 0, 2, 2, 3, 3, 2} }

// A twin that has been taken away serves no other: of each row of alike ones the first is left, of each kind, whichever states they come from and lead to.
func TestTwinsStillThere(t *testing.T) {
	match := state(1, -1, -1, 0, -1, 1, -1, 2, -1, 3, -1, 4, -1)
	leaves(t, prune, of([]int{1, 2}, match,
		state(2, -1, 1, 1, 1, 3, 1, 4, 1),
		state(2, -1, 2, 2, 2, 3, 2, 4, 2),
		state(3, -1, 1, 1, 1, 2, 1, 3, 1),
		state(3, -1, 2, 1, 2, 2, 2, 4, 2)), 0, 1, 3)
	leaves(t, prune, of([]int{1, 1}, match,
		state(2, -1, 1, 1, 1, 3, 1, 4, 1),
		state(2, -1, 2, 2, 2, 3, 2, 4, 2),
		state(3, -1, 1, 1, 1, 2, 1, 3, 1),
		state(3, -1, 2, 1, 2, 2, 2, 4, 2)), 0, 1, 3)
	// The match state may stand behind, or be left out.
	leaves(t, prune, of([]int{1, 2},
		state(2, -1, 1, 0, 1, 2, 1),
		state(3, -1, 1, 1, 1),
		state(1, -1, -1, 0, -1, 1, -1, 3, -1, 4, -1),
		state(2, -1, 2, 2, 2, 3, 2),
		state(3, -1, 1, 4, 1)), 0, 1, 2)
	nine := slices.Repeat([]api.State{{}}, 9)
	for s := range nine {
		nine[s] = state(2+s%2, -1, 1, s, 1)
	}
	leaves(t, prune, of([]int{1}, nine...), 0, 1)
	// One that is taken away by two that serve together; one of these by another.
	leaves(t, prune, gapsOf(2, 4, 3, 24, 0, 10, 2, 24, 0, 4, 4), 0, 1, 2)
	leaves(t, prune, gapsOf(2, 25, 0, 10, 2, 4, 3, 24, 0), 0, 3, 4)
	leaves(t, prune, gapsOf(2, 10, 2, 24, 0, 4, 3, 10, 2), 0, 2, 3)
}

// Of a scheme's recurrence both kinds go by pieces; nothing else is turned, and definitions stay though nothing names them.
func TestPruneOfSchemes(t *testing.T) {
	for gaps, kept := range map[string][]int{
		"":                                   {0},
		"gap 2, 1;":                          {0, 1, 2},
		"gap 2, 1; gap 2, 1;":                {0, 1, 3},
		"gap 2, 1; gap 2, 2;":                {0, 1, 3},
		"gap 2, 2; gap 2, 1;":                {0, 2, 4},
		"gap 0, 0; gap 0, 0; gap 0, 0;":      {0, 1, 4},
		"gap 1, 3; gap 10, 0; gap 3, 2;":     {0, 1, 2, 3, 4, 5, 6},
		"gap 1, 3; gap 10, 0; gap 4, 2;":     {0, 1, 2, 4, 5},
		"gap 1, 3; gap 10, 0; gap 5, 2;":     {0, 1, 2, 4, 5},
		"gap 9, 9; gap 8, 8; gap 1, 7;":      {0, 3, 6},
		"gap 0, 9; gap 4, 4; gap 9, 0;":      {0, 2, 3, 5, 6},
		"gap 0, 9; gap 9, 0; gap 9, 1;":      {0, 2, 5},
		"gap 3, 3; gap 2, 2; gap 1 + 1, 2;":  {0, 2, 5},
		"gap 3, 3; band 0 .. 0; gap 3, 3;":   {0, 1, 3},
		"gap 0, 4; gap 8, 0; gap 2 * 4, 0;":  {0, 1, 2, 4, 5},
		"gap 72057594037927936, 0; gap 0,1;": {0, 1, 2, 3, 4},
	} {
		leaves(t, prune, withGaps(t, gaps), kept...)
	}
}

// What can be come to: by a chain of edges from the beginning, in whatever order the states stand.
func TestDrop(t *testing.T) {
	leavesAll(t, drop, of(nil))
	leaves(t, drop, of(nil, state(1)))
	leaves(t, drop, of(nil, state(1, 0, 0)))
	leavesAll(t, drop, of(nil, state(1, -1, -1)))
	leaves(t, drop, of(nil, state(1, 1, -1), state(2, 0, -1)))
	leavesAll(t, drop, of(nil, state(1, 1, -1), state(2, -1, -1)))
	// Chains that rise, fall, and go to and fro; with the first link gone all are.
	rising := []api.State{state(1, -1, 0)}
	falling := []api.State{state(1, 1, 0)}
	for s := 1; s < 9; s++ {
		rising = append(rising, state(1+s%3, s-1, 0))
		if s < 8 {
			falling = append(falling, state(1+s%3, s+1, 0))
		}
	}
	falling = append(falling, state(2, -1, 0))
	leavesAll(t, drop, of(nil, rising...))
	leavesAll(t, drop, of(nil, falling...))
	fro := []api.State{state(1, 5, 0), state(1, 7, 0), state(2, -1, 0), state(3, 4, 0), state(3, 6, 0), state(1, 8, 0), state(2, 1, 0), state(2, 2, 0), state(1, 3, 0)}
	leavesAll(t, drop, of(nil, fro...))
	fro[6] = state(2, 0, 0)
	leaves(t, drop, of(nil, fro...), 1, 2, 7)
	rising[0], falling[8] = state(1), state(2, 8, 0)
	leaves(t, drop, of(nil, rising...))
	leaves(t, drop, of(nil, falling...))
	// Definitions stay.
	r := of([]int{4, 5}, state(1, -1, 0), state(2, 1, 1))
	r.Defs = append(r.Defs, api.Def{Op: api.DefNeg, A: 1})
	leaves(t, drop, r, 0)
}

// A band of one diagonal leaves match states alone, and of these those that no chain leads to through others.
func TestDropOfOneDiagonal(t *testing.T) {
	r := of(nil, state(2, -1, 0, 0, 0), state(1, 0, 0), state(1, -1, 0, 1, 0), state(3, 2, 0), state(1, 2, 0, 3, 0), state(1, 3, 0))
	leavesAll(t, drop, r)
	for _, band := range [][2]int{{0, 0}, {3, 3}, {-3, -3}, {70000, 70000}, {math.MinInt, math.MinInt}, {math.MaxInt, math.MaxInt}} {
		r.Banded, r.Lo, r.Hi = true, band[0], band[1]
		leaves(t, drop, r, 2, 4)
	}
	for _, band := range [][2]int{{0, 1}, {-1, 0}, {-3, 3}, {math.MinInt, math.MaxInt}} {
		r.Banded, r.Lo, r.Hi = true, band[0], band[1]
		leavesAll(t, drop, r)
	}
	leaves(t, drop, withGaps(t, "gap 1, 1; gap 2, 0; band -2 .. -2;"), 0)
	leavesAll(t, drop, withGaps(t, "gap 1, 1; gap 2, 0; band -2 .. -1;"))
}

// The band within what sequences reach, at all its edges.
func TestClamp(t *testing.T) {
	for _, c := range [][4]int{
		{0, 0, 0, 0}, {-9, -3, -9, -3}, {-65535, 65535, -65535, 65535}, {-65536, 65535, -65536, 65535}, {-65535, 65536, -65535, 65536},
		{-65537, 65535, -65536, 65535}, {-65535, 65537, -65535, 65536}, {math.MinInt, 0, -65536, 0}, {0, math.MaxInt, 0, 65536},
		{65536, 65536, 65536, 65536}, {65536, 70000, 65536, 65536}, {65537, 65537, 65537, 65537}, {65537, 70000, 65537, 65537}, {65538, 65538, 65537, 65537},
		{math.MaxInt, math.MaxInt, 65537, 65537}, {-65536, -65536, -65536, -65536}, {-70000, -65536, -65536, -65536}, {-65537, -65537, -65537, -65537},
		{-70000, -65537, -65537, -65537}, {-65538, -65538, -65537, -65537}, {math.MinInt, math.MinInt, -65537, -65537}, {math.MinInt, -65537, -65537, -65537},
	} {
		r := of([]int{3}, state(2, -1, 1, 0, -1), state(3, 1, 0))
		r.Banded, r.Lo, r.Hi = true, c[0], c[1]
		want := copied(r)
		want.Lo, want.Hi = c[2], c[3]
		makes(t, clamp, r, want)
		leavesAll(t, clamp, want)
	}
	plain := of([]int{3}, state(2, -1, 1, 0, -1))
	leavesAll(t, clamp, plain)
	for _, c := range [][2]int{{-65536, 65536}, {-65537, 65536}, {-65536, 65537}, {math.MinInt, math.MaxInt}} {
		r := copied(plain)
		r.Banded, r.Lo, r.Hi = true, c[0], c[1]
		makes(t, clamp, r, plain)
	}
}

// All does one behind the other: what a later one does, an earlier one has not seen.
func TestAll(t *testing.T) {
	// The definitions are folded ahead of states being taken away: the numbers of those stay.
	r := withGaps(t, "gap 1, 3; gap 10, 0; gap 4, 3; band -70000 .. 70000;")
	got, e := passes.All(r)
	if e != api.OK || len(got.States) != 5 || got.Banded || !slices.Equal(got.Defs, nums(0, 1, 3, 4, 7, 10)) || !sameRecur(got, plainAll(r)) {
		t.Errorf("P14.5: %+v, %v", got, e)
	}
	// The band is clamped behind dropping: a band that is one diagonal by that leaves gaps as they are.
	r = withGaps(t, "gap 1, 1; band 65536 .. 70000;")
	got, e = passes.All(r)
	if e != api.OK || len(got.States) != 3 || got.Lo != 65536 || got.Hi != 65536 {
		t.Errorf("P14.5: %+v, %v", got, e)
	}
	// States are dropped behind pruning: what could not be come to was a third state yet, so the two were no twins.
	r = of([]int{1, 2}, state(1, -1, -1, 0, -1, 1, -1, 2, -1), state(2, -1, 1, 0, 1, 1, 1), state(2, -1, 2, 0, 2, 2, 2), state(1, 3, -1))
	want := of([]int{1, 2}, state(1, -1, -1, 0, -1, 1, -1), state(2, -1, 1, 0, 1, 1, 1))
	makes(t, all, r, want)
	r.States[3] = state(1, 2, -1, 3, -1)
	leavesAll(t, all, r)
	r.States[3] = state(3, 3, -1)
	r.States[1].From = append(r.States[1].From, api.Edge{State: 3, Cost: 1})
	leaves(t, all, r, 0, 1, 2)
}

// wrongs are ways to make a right recurrence wrong, by one thing each.
func wrongs() map[string]func(r *api.Recur) {
	return map[string]func(r *api.Recur){
		"nothing":             func(r *api.Recur) { *r = api.Recur{} },
		"one letter":          func(r *api.Recur) { r.Letters, r.Subst = 1, []int{0} },
		"too many letters":    func(r *api.Recur) { r.Letters, r.Subst = 21, make([]int, 441) },
		"no definitions":      func(r *api.Recur) { r.Defs = nil },
		"too many":            func(r *api.Recur) { r.Defs = slices.Repeat(nums(1), 5005) },
		"a wrong definition":  func(r *api.Recur) { r.Defs = append(r.Defs, api.Def{Op: 8}) },
		"one that is ahead":   func(r *api.Recur) { r.Defs = append(r.Defs, api.Def{Op: api.DefNeg, A: len(r.Defs)}) },
		"a number too great":  func(r *api.Recur) { r.Defs = append(r.Defs, nums(1<<57+1)...) },
		"Subst too short":     func(r *api.Recur) { r.Subst = r.Subst[:3] },
		"Subst too long":      func(r *api.Recur) { r.Subst = append(r.Subst, 0) },
		"a place below 0":     func(r *api.Recur) { r.Subst[1] = -1 },
		"a place too great":   func(r *api.Recur) { r.Subst[3] = len(r.Defs) },
		"Begin 0":             func(r *api.Recur) { r.Begin = 0 },
		"Begin 4":             func(r *api.Recur) { r.Begin = 4 },
		"End 0":               func(r *api.Recur) { r.End = 0 },
		"End 4":               func(r *api.Recur) { r.End = 4 },
		"Front no place":      func(r *api.Recur) { r.Front = -1 },
		"Back no place":       func(r *api.Recur) { r.Back = len(r.Defs) },
		"Front below 0":       func(r *api.Recur) { r.Front = 1 },
		"Back below 0":        func(r *api.Recur) { r.Back = 1 },
		"Lo above Hi":         func(r *api.Recur) { r.Lo, r.Hi = 2, 1 },
		"not banded, but Lo":  func(r *api.Recur) { r.Banded, r.Lo, r.Hi = false, -1, 0 },
		"not banded, but Hi":  func(r *api.Recur) { r.Banded, r.Lo, r.Hi = false, 0, 1 },
		"ten states":          func(r *api.Recur) { r.States = slices.Repeat([]api.State{state(1)}, 10) },
		"Kind 0":              func(r *api.Recur) { r.States[0].Kind = 0 },
		"Kind 4":              func(r *api.Recur) { r.States[1].Kind = 4 },
		"edges that fall":     func(r *api.Recur) { r.States[1] = state(2, 1, 0, 0, 0) },
		"edges alike":         func(r *api.Recur) { r.States[1] = state(2, 0, 0, 0, 0) },
		"an edge of no state": func(r *api.Recur) { r.States[1] = state(2, 2, 0) },
		"an edge ahead of -1": func(r *api.Recur) { r.States[1] = state(2, -2, 0) },
		"a Cost below -1":     func(r *api.Recur) { r.States[1] = state(2, 0, -2) },
		"a Cost too great":    func(r *api.Recur) { r.States[1] = state(2, 0, len(r.Defs)) },
	}
}

func TestWrong(t *testing.T) {
	sample := func() api.Recur {
		r := of([]int{-1, 2}, state(1, -1, -1, 0, -1, 1, -1), state(2, -1, 2, 0, 2, 1, 1))
		r.Banded, r.Lo, r.Hi = true, -3, 3
		return r
	}
	if !recur.Right(sample()) {
		t.Fatal("the test's own recurrence is wrong")
	}
	for what, change := range wrongs() {
		r := sample()
		change(&r)
		for _, p := range everyPass() {
			if got, e := p.do(r); e != api.ErrRecur || !sameRecur(got, api.Recur{}) {
				t.Errorf("%s, %s: %+v, %v", p.name, what, short(got), e)
			}
		}
	}
}
