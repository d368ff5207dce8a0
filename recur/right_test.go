package recur_test

import (
	"math"
	"slices"
	"strconv"
	"testing"

	"helix/api"
	"helix/recur"
)

// free is a right recurrence that no scheme has: its states are of any kinds, in any order, with any edges.
func free() api.Recur {
	return api.Recur{
		Letters: 2, Defs: append(numsOf(1, -2, 3, 0), def(api.DefSub, 1, 2)), Subst: []int{0, 1, 4, 3}, Begin: 2, End: 3, Front: 2, Back: 3, Banded: true, Lo: -3, Hi: 4,
		States: []api.State{
			{Kind: 3, From: edges(-1, 4, 1, -1, 3, 0)},
			{Kind: 1, From: edges(0, 1)},
			{Kind: 3},
			{Kind: 2, From: edges(-1, -1, 0, 1, 1, 1, 2, 0, 3, 4)},
		},
	}
}

// is holds a recurrence to be right, or not, and to be folded as it is.
func is(t *testing.T, right bool, what string, r api.Recur) {
	t.Helper()
	if plainRight(r) != right {
		t.Fatalf("the test's own recurrence is not so: %s", what)
	}
	if recur.Right(r) != right {
		t.Errorf("P12.2: Right, %s: %v", what, !right)
	}
	if recur.Folded(r) != plainFolded(r) {
		t.Errorf("P12.2: Folded, %s: %v", what, !plainFolded(r))
	}
}

func TestRight(t *testing.T) {
	for what, change := range map[string]func(r *api.Recur){
		"as it is":  func(*api.Recur) {},
		"no states": func(r *api.Recur) { r.States = nil },
		"one state": func(r *api.Recur) { r.States = []api.State{{Kind: 2, From: edges(0, 0)}} },
		"nine states": func(r *api.Recur) {
			r.States = slices.Repeat([]api.State{{Kind: 2, From: edges(-1, -1, 0, 0, 1, 0, 2, 0, 3, 0, 4, 0, 5, 0, 6, 0, 7, 0, 8, 0)}}, 9)
		},
		"no edges":           func(r *api.Recur) { r.States = slices.Repeat([]api.State{{Kind: 1}}, 9) },
		"no match":           func(r *api.Recur) { r.States[1].Kind = 2 },
		"the last state":     func(r *api.Recur) { r.States[2].From = edges(3, 4) },
		"costs below 0":      func(r *api.Recur) { r.States[2].From = edges(-1, 1, 0, 4) },
		"Front above Back":   func(r *api.Recur) { r.Front, r.Back = 3, 2 },
		"of numbers alone":   func(r *api.Recur) { r.Defs[4] = numsOf(-5)[0] },
		"one definition":     func(r *api.Recur) { *r = oneDef() },
		"one, of 0":          func(r *api.Recur) { *r = oneDef(); r.Defs[0].Num = 0 },
		"greatest numbers":   func(r *api.Recur) { r.Defs[0].Num, r.Defs[1].Num, r.Defs[2].Num = 1<<57, 0, 1<<57 },
		"the opposite":       func(r *api.Recur) { r.Defs[0].Num, r.Defs[1].Num, r.Defs[2].Num = -1<<57, -1<<57, 0 },
		"5004 Defs":          func(r *api.Recur) { r.Defs = append(r.Defs, slices.Repeat(numsOf(1), 4999)...); r.Front = 5003 },
		"5004 that add up":   func(r *api.Recur) { r.Defs = append(r.Defs, slices.Repeat([]api.Def{def(api.DefAdd, 4, 3)}, 4999)...) },
		"twenty letters":     func(r *api.Recur) { r.Letters, r.Subst = 20, slices.Repeat([]int{4, 1, 0, 3}, 100) },
		"three letters":      func(r *api.Recur) { r.Letters, r.Subst = 3, slices.Repeat([]int{4}, 9) },
		"Lo is Hi":           func(r *api.Recur) { r.Lo = r.Hi },
		"any band":           func(r *api.Recur) { r.Lo, r.Hi = math.MinInt, math.MaxInt },
		"the greatest band":  func(r *api.Recur) { r.Lo, r.Hi = math.MaxInt, math.MaxInt },
		"the least band":     func(r *api.Recur) { r.Lo, r.Hi = math.MinInt, math.MinInt },
		"the band 0 .. 0":    func(r *api.Recur) { r.Lo, r.Hi = 0, 0 },
		"a band above 2^57":  func(r *api.Recur) { r.Lo, r.Hi = -1<<58, 1<<58 },
		"not banded":         func(r *api.Recur) { r.Banded, r.Lo, r.Hi = false, 0, 0 },
		"empty lists":        func(r *api.Recur) { r.States = []api.State{} },
		"an empty From":      func(r *api.Recur) { r.States[2].From = []api.Edge{} },
		"an edge, no cost":   func(r *api.Recur) { r.States[2].From = edges(2, -1) },
		"a cost at the last": func(r *api.Recur) { r.States[2].From = edges(2, 4) },
		"as example of 14": func(r *api.Recur) {
			*r = api.Recur{Letters: 2, Defs: append(numsOf(2, 2), def(api.DefAdd, 0, 1)), Subst: []int{2, 2, 2, 2}, Begin: 1, End: 1}
		},
	} {
		r := free()
		change(&r)
		is(t, true, what, r)
	}
	for begin := 1; begin <= 3; begin++ {
		for end := 1; end <= 3; end++ {
			for kind := 1; kind <= 3; kind++ {
				r := free()
				r.Begin, r.End, r.States[0].Kind, r.States[3].Kind = begin, end, kind, kind
				is(t, true, "each Begin, End, Kind", r)
			}
		}
	}
}

// oneDef is a recurrence of one definition, at the place 0 of which all stand.
func oneDef() api.Recur {
	return api.Recur{Letters: 2, Defs: numsOf(7), Subst: []int{0, 0, 0, 0}, Begin: 1, End: 1, States: []api.State{{Kind: 1, From: edges(-1, 0, 0, 0)}}}
}

// wrongRecurs are ways to make a recurrence wrong that is right, by one thing each.
func wrongRecurs() map[string]func(r *api.Recur) {
	ways := map[string]func(r *api.Recur){
		"one letter":           func(r *api.Recur) { r.Letters, r.Subst = 1, []int{0} },
		"no letters":           func(r *api.Recur) { r.Letters, r.Subst = 0, nil },
		"below 0 letters":      func(r *api.Recur) { r.Letters = -2 },
		"21 letters":           func(r *api.Recur) { r.Letters, r.Subst = 21, make([]int, 441) },
		"letters wrap round":   func(r *api.Recur) { r.Letters, r.Subst = 1<<32, nil },
		"letters wrap to 4":    func(r *api.Recur) { r.Letters = 2 - 1<<63 },
		"a letter more":        func(r *api.Recur) { r.Letters = 3 },
		"Subst too short":      func(r *api.Recur) { r.Subst = r.Subst[:3] },
		"no Subst":             func(r *api.Recur) { r.Subst = nil },
		"Subst too long":       func(r *api.Recur) { r.Subst = append(r.Subst, 0) },
		"no Defs":              func(r *api.Recur) { r.Defs = nil },
		"no Defs, no states":   func(r *api.Recur) { r.Defs, r.States = nil, nil },
		"5005 Defs":            func(r *api.Recur) { r.Defs = append(r.Defs, slices.Repeat(numsOf(1), 5000)...) },
		"a wrong Op":           func(r *api.Recur) { r.Defs[3].Op = 8 },
		"no Op":                func(r *api.Recur) { r.Defs = append(r.Defs, api.Def{}) },
		"a Num too much":       func(r *api.Recur) { r.Defs[4].Num = 1 },
		"an A too much":        func(r *api.Recur) { r.Defs[3].A = 1 },
		"a place not ahead":    func(r *api.Recur) { r.Defs[4].B = 4 },
		"a number too great":   func(r *api.Recur) { r.Defs[0].Num = 1<<57 + 1 },
		"a number too low":     func(r *api.Recur) { r.Defs[0].Num = -1<<57 - 1 },
		"made too great":       func(r *api.Recur) { r.Defs[1].Num = -1 << 57 },
		"wrong but not used":   func(r *api.Recur) { r.Defs = append(r.Defs, def(api.DefNeg, 9, 0)) },
		"Lo above Hi":          func(r *api.Recur) { r.Lo = r.Hi + 1 },
		"Lo far above Hi":      func(r *api.Recur) { r.Lo, r.Hi = math.MaxInt, math.MinInt },
		"not banded, but both": func(r *api.Recur) { r.Banded = false },
		"not banded, but Lo":   func(r *api.Recur) { r.Banded, r.Lo, r.Hi = false, -1, 0 },
		"not banded, but Hi":   func(r *api.Recur) { r.Banded, r.Lo, r.Hi = false, 0, 1 },
		"not banded, alike":    func(r *api.Recur) { r.Banded, r.Lo, r.Hi = false, 1, 1 },
		"ten states":           func(r *api.Recur) { r.States = slices.Repeat([]api.State{{Kind: 1}}, 10) },
		"many states":          func(r *api.Recur) { r.States = slices.Repeat([]api.State{{Kind: 1}}, 70000) },
		"Front below 0":        func(r *api.Recur) { r.Front = 1 },
		"Back below 0":         func(r *api.Recur) { r.Back = 1 },
		"Front made below 0":   func(r *api.Recur) { r.Front = 4 },
		"Back made below 0":    func(r *api.Recur) { r.Back = 4 },
		"two edges alike":      func(r *api.Recur) { r.States[3].From = edges(-1, 0, 0, 1, 0, 1) },
		"two of a state":       func(r *api.Recur) { r.States[3].From = edges(-1, 0, 0, 1, 0, 2) },
		"two of the start":     func(r *api.Recur) { r.States[3].From = edges(-1, -1, -1, 2) },
		"two of the last":      func(r *api.Recur) { r.States[3].From = edges(3, -1, 3, 2) },
		"edges fall":           func(r *api.Recur) { r.States[3].From = edges(1, 0, 0, 0) },
		"the start behind":     func(r *api.Recur) { r.States[0].From = edges(0, 0, -1, 0) },
		"the last one falls":   func(r *api.Recur) { r.States[0].From = edges(-1, 0, 0, 0, 2, 0, 1, 0) },
		"a state's number":     func(r *api.Recur) { r.States = r.States[:3] },
		"an edge of none":      func(r *api.Recur) { r.States = []api.State{{Kind: 1, From: edges(1, -1)}} },
		"all wrong":            func(r *api.Recur) { *r = allWrong() },
	}
	for what, field := range places() {
		for _, p := range []int{5, 6, math.MaxInt, math.MinInt, 1 << 32, -1 << 32, -2, 2 - 1<<63} {
			ways[what+" is "+strconv.Itoa(p)] = func(r *api.Recur) { *field(r) = p }
		}
		if what[0] != 'C' {
			ways[what+" is -1"] = func(r *api.Recur) { *field(r) = -1 }
		}
	}
	for what, field := range choices() {
		for _, n := range []int{0, 4, -1, 5, math.MaxInt, math.MinInt, 1<<32 + 1} {
			ways[what+" is "+strconv.Itoa(n)] = func(r *api.Recur) { *field(r) = n }
		}
	}
	for _, n := range []int{-2, 4, 5, math.MaxInt, math.MinInt, 1 << 32} {
		ways["alone a State "+strconv.Itoa(n)] = func(r *api.Recur) { r.States[1].From[0].State = n }
		ways["the last State "+strconv.Itoa(n)] = func(r *api.Recur) { r.States[3].From[4].State = n }
		ways["the first State "+strconv.Itoa(n)] = func(r *api.Recur) { r.States[0].From[0].State = n }
	}
	return ways
}

func allWrong() api.Recur {
	return api.Recur{
		Letters: -1, Defs: make([]api.Def, 3), Subst: []int{-1}, Begin: 9, End: -9, Front: -1, Back: 7, Lo: 3, Hi: 2,
		States: []api.State{{Kind: 7, From: edges(5, 5, 5, 5, -7, -7)}},
	}
}

// places are what is a place in the recurrence free.
func places() map[string]func(r *api.Recur) *int {
	return map[string]func(r *api.Recur) *int{
		"Subst 0": func(r *api.Recur) *int { return &r.Subst[0] }, "Subst 2": func(r *api.Recur) *int { return &r.Subst[2] }, "Subst 3": func(r *api.Recur) *int { return &r.Subst[3] },
		"Front": func(r *api.Recur) *int { return &r.Front }, "Back": func(r *api.Recur) *int { return &r.Back },
		"Cost of the first": func(r *api.Recur) *int { return &r.States[0].From[0].Cost }, "Cost of one alone": func(r *api.Recur) *int { return &r.States[1].From[0].Cost },
		"Cost of one amid": func(r *api.Recur) *int { return &r.States[3].From[1].Cost }, "Cost of the last": func(r *api.Recur) *int { return &r.States[3].From[4].Cost },
	}
}

// choices are what is 1 to 3 in the recurrence free.
func choices() map[string]func(r *api.Recur) *int {
	return map[string]func(r *api.Recur) *int{
		"Begin": func(r *api.Recur) *int { return &r.Begin }, "End": func(r *api.Recur) *int { return &r.End },
		"Kind of the first": func(r *api.Recur) *int { return &r.States[0].Kind }, "Kind of one amid": func(r *api.Recur) *int { return &r.States[2].Kind }, "Kind of the last": func(r *api.Recur) *int { return &r.States[3].Kind },
	}
}

func TestWrong(t *testing.T) {
	is(t, false, "nothing", api.Recur{})
	for what, change := range wrongRecurs() {
		r := free()
		change(&r)
		is(t, false, what, r)
	}
}

// Folded asks for nothing but the Ops of all definitions, of a recurrence that is right or not.
func TestFolded(t *testing.T) {
	folds := func(want bool, defs ...api.Def) {
		t.Helper()
		for _, r := range []api.Recur{{Defs: defs}, {Letters: 2, Defs: defs, Subst: []int{0, 0, 0, 0}, Begin: 1, End: 1}, allWrong()} {
			r.Defs = defs
			if recur.Folded(r) != want {
				t.Errorf("P12.2: Folded of %v: %v", defs, !want)
			}
		}
	}
	folds(true)
	folds(true, numsOf(1, 1, 0, -5)...)
	folds(true, slices.Repeat(numsOf(3), 6000)...)
	folds(true, api.Def{Op: api.DefNum, Num: math.MaxInt, A: 3, B: -1})
	for _, op := range []int{api.DefNeg, api.DefAdd, api.DefSub, api.DefMul, api.DefMin, api.DefMax, 0, -1, 8, math.MaxInt, math.MinInt, 1<<32 + 1} {
		folds(false, def(op, 0, 0))
		folds(false, append(numsOf(1, 2), def(op, 0, 0))...)
		folds(false, append([]api.Def{def(op, 0, 0)}, numsOf(1, 2)...)...)
		folds(false, append(append(numsOf(1), def(op, 0, 0)), numsOf(2)...)...)
	}
}

// What Lower tells is folded just if no definition is made of others, which each piece's opening is.
func TestFoldedOfLower(t *testing.T) {
	for source, want := range map[string]bool{
		`alphabet "AC"; match 1; mismatch 2; mode fit;`:                true,
		`alphabet "AC"; match 1; mismatch -2; mode fit;`:               false,
		`alphabet "AC"; match 1; mismatch min(2); mode fit;`:           true,
		`alphabet "AC"; match 1; mismatch 2; gap 0, 0; mode fit;`:      false,
		`let a = 1 + 1; alphabet "AC"; match 1; mismatch 2; mode fit;`: false,
	} {
		r, e := recur.Lower(schemeOf(t, source))
		if e != api.OK || recur.Folded(r) != want {
			t.Errorf("P12.2: Folded of %s: %v, %v", source, recur.Folded(r), e)
		}
	}
}
