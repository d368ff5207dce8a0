package recur_test

import (
	"math"
	"slices"
	"strconv"
	"testing"

	"helix/api"
	"helix/check"
	"helix/recur"
	"helix/syntax"
)

// numsOf are definitions of numbers.
func numsOf(numbers ...int) []api.Def {
	var l []api.Def
	for _, n := range numbers {
		l = append(l, api.Def{Op: api.DefNum, Num: n})
	}
	return l
}

func def(op, a, b int) api.Def { return api.Def{Op: op, A: a, B: b} }

// pieces are those of two places each.
func pieces(places ...int) []api.Piece {
	var l []api.Piece
	for i := 0; i < len(places); i += 2 {
		l = append(l, api.Piece{Open: places[i], Extend: places[i+1]})
	}
	return l
}

// edges are those of a State and a Cost each.
func edges(numbers ...int) []api.Edge {
	var l []api.Edge
	for i := 0; i < len(numbers); i += 2 {
		l = append(l, api.Edge{State: numbers[i], Cost: numbers[i+1]})
	}
	return l
}

// sample is a right scheme with all that one may have.
func sample() api.Scheme {
	return api.Scheme{
		Letters: "AC", Defs: append(numsOf(1, -2, 3, 4, 5, 6, -7, 8, 9), def(api.DefNeg, 0, 0)), Subst: []int{0, 1, 9, 0},
		Pieces: pieces(2, 3, 4, 5), Mode: api.Local, Banded: true, Lo: 6, Hi: 7, Front: 2, Back: 8, Least: 1,
	}
}

// sameState and sameRecur hold lists without asking whether they are nil or empty.
func sameState(a, b api.State) bool { return a.Kind == b.Kind && slices.Equal(a.From, b.From) }

func sameRecur(a, b api.Recur) bool {
	return a.Letters == b.Letters && slices.Equal(a.Defs, b.Defs) && slices.Equal(a.Subst, b.Subst) &&
		a.Begin == b.Begin && a.End == b.End && a.Front == b.Front && a.Back == b.Back &&
		a.Banded == b.Banded && a.Lo == b.Lo && a.Hi == b.Hi && slices.EqualFunc(a.States, b.States, sameState)
}

// short leaves out all but the last few of a long list of definitions, so that what a test tells can be read.
func short(r api.Recur) api.Recur {
	if len(r.Defs) > 30 {
		r.Defs = r.Defs[len(r.Defs)-30:]
	}
	return r
}

// lowers holds a right scheme to its recurrence, which is right (P12.3).
func lowers(t *testing.T, s api.Scheme, want api.Recur) {
	t.Helper()
	r, e := recur.Lower(s)
	if e != api.OK || !sameRecur(r, want) {
		t.Errorf("P12.1: Lower of %+v: %+v, %v; want %+v", s, short(r), e, short(want))
	}
	if !recur.Right(r) || !plainRight(r) {
		t.Errorf("P12.3: Lower of %+v is not right: %+v", s, short(r))
	}
	if recur.Folded(r) != plainFolded(r) {
		t.Errorf("P12.2: Folded of %+v: %v", short(r), recur.Folded(r))
	}
}

// refuses holds a scheme to have none.
func refuses(t *testing.T, what string, s api.Scheme) {
	t.Helper()
	if plainScheme(s) {
		t.Fatalf("the test's own scheme is right: %s", what)
	}
	if r, e := recur.Lower(s); e != api.ErrScheme || !sameRecur(r, api.Recur{}) {
		t.Errorf("P12.1: Lower, %s: %+v, %v", what, short(r), e)
	}
}

// schemeOf is that of a source.
func schemeOf(t *testing.T, source string) api.Scheme {
	t.Helper()
	tree, f := syntax.Parse(source)
	if f.Code != api.OK {
		t.Fatal(source, f)
	}
	s, f := check.Check(tree)
	if f.Code != api.OK {
		t.Fatal(source, f)
	}
	return s
}

// The chapter's examples.
func TestExamples(t *testing.T) {
	s := api.Scheme{Letters: "AC", Defs: numsOf(5, -6, 0), Subst: []int{0, 1, 1, 0}, Mode: api.Global, Front: 2, Back: 2, Least: 2}
	lowers(t, s, api.Recur{
		Letters: 2, Defs: numsOf(5, -6, 0), Subst: []int{0, 1, 1, 0}, Begin: 1, End: 1, Front: 2, Back: 2,
		States: []api.State{{Kind: 1, From: edges(-1, -1, 0, -1)}},
	})
	s = api.Scheme{Letters: "AC", Defs: numsOf(1, -1, 4, 2, 0, 0), Subst: []int{0, 1, 1, 0}, Pieces: pieces(2, 3), Mode: api.Fit, Front: 4, Back: 4, Least: 5}
	lowers(t, s, api.Recur{
		Letters: 2, Defs: append(numsOf(1, -1, 4, 2, 0, 0), def(api.DefAdd, 2, 3)), Subst: []int{0, 1, 1, 0}, Begin: 2, End: 2, Front: 4, Back: 4,
		States: []api.State{
			{Kind: 1, From: edges(-1, -1, 0, -1, 1, -1, 2, -1)},
			{Kind: 2, From: edges(-1, 6, 0, 6, 1, 3, 2, 6)},
			{Kind: 3, From: edges(-1, 6, 0, 6, 1, 6, 2, 3)},
		},
	})
}

// All that a scheme may have: two pieces, a band in numbers, ends that cost.
func TestLowerSample(t *testing.T) {
	lowers(t, sample(), api.Recur{
		Letters: 2, Defs: append(numsOf(1, -2, 3, 4, 5, 6, -7, 8, 9), def(api.DefNeg, 0, 0), def(api.DefAdd, 2, 3), def(api.DefAdd, 4, 5)),
		Subst: []int{0, 1, 9, 0}, Begin: 3, End: 3, Front: 2, Back: 8, Banded: true, Lo: -7, Hi: 8,
		States: []api.State{
			{Kind: 1, From: edges(-1, -1, 0, -1, 1, -1, 2, -1, 3, -1, 4, -1)},
			{Kind: 2, From: edges(-1, 10, 0, 10, 1, 3, 3, 10, 4, 10)},
			{Kind: 2, From: edges(-1, 11, 0, 11, 2, 5, 3, 11, 4, 11)},
			{Kind: 3, From: edges(-1, 10, 0, 10, 1, 10, 2, 10, 3, 3)},
			{Kind: 3, From: edges(-1, 11, 0, 11, 1, 11, 2, 11, 4, 5)},
		},
	})
}

// The mode says where paths begin and end, and nothing else.
func TestModes(t *testing.T) {
	for _, want := range [][3]int{
		{api.Global, api.AtCorner, api.AtCorner}, {api.Fit, api.AtSide, api.AtSide}, {api.Local, api.AtAny, api.AtAny}, {api.Extend, api.AtCorner, api.AtAny},
	} {
		s := sample()
		r := plainLower(s)
		s.Mode, r.Begin, r.End = want[0], want[1], want[2]
		lowers(t, s, r)
	}
}

// From none to as many pieces as there may be; pieces that are alike have states of their own.
func TestPieces(t *testing.T) {
	places := []int{2, 3, 4, 5, 4, 5, 8, 2}
	for n := range 5 {
		s := sample()
		s.Pieces = pieces(places[:2*n]...)
		r := plainLower(s)
		if len(r.States) != 2*n+1 || len(r.Defs) != len(s.Defs)+n {
			t.Fatal("the test's own recurrence", r)
		}
		lowers(t, s, r)
	}
	s := sample()
	s.Pieces = pieces(2, 3, 4, 5, 4, 5, 8, 2)
	r, e := recur.Lower(s)
	if e != api.OK || len(r.States) != 9 {
		t.Fatal(r, e)
	}
	for k, want := range map[int]api.State{
		0: {Kind: 1, From: edges(-1, -1, 0, -1, 1, -1, 2, -1, 3, -1, 4, -1, 5, -1, 6, -1, 7, -1, 8, -1)},
		1: {Kind: 2, From: edges(-1, 10, 0, 10, 1, 3, 5, 10, 6, 10, 7, 10, 8, 10)},
		3: {Kind: 2, From: edges(-1, 12, 0, 12, 3, 5, 5, 12, 6, 12, 7, 12, 8, 12)},
		4: {Kind: 2, From: edges(-1, 13, 0, 13, 4, 2, 5, 13, 6, 13, 7, 13, 8, 13)},
		5: {Kind: 3, From: edges(-1, 10, 0, 10, 1, 10, 2, 10, 3, 10, 4, 10, 5, 3)},
		8: {Kind: 3, From: edges(-1, 13, 0, 13, 1, 13, 2, 13, 3, 13, 4, 13, 8, 2)},
	} {
		if !sameState(r.States[k], want) {
			t.Errorf("P12.1: state %d of four pieces: %v, not %v", k, r.States[k], want)
		}
	}
}

// A band is told in numbers, which definitions of any kind make.
func TestBands(t *testing.T) {
	s := sample()
	s.Banded, s.Lo, s.Hi = false, 0, 0
	lowers(t, s, plainLower(s))
	for _, b := range [][2]int{{-1 << 56, 1 << 56}, {1 << 56, 1 << 56}, {-1 << 56, -1 << 56}, {0, 0}, {-1, 0}, {3, 70000}, {-70000, -3}} {
		s := sample()
		n := len(s.Defs)
		s.Defs = append(s.Defs, numsOf(b[0], -b[1])...)
		s.Defs = append(s.Defs, def(api.DefMin, n, n), def(api.DefNeg, n+1, 0))
		s.Lo, s.Hi = n+2, n+3
		r := plainLower(s)
		if !r.Banded || r.Lo != b[0] || r.Hi != b[1] {
			t.Fatal("the test's own recurrence", r)
		}
		lowers(t, s, r)
	}
}

// What is at a limit is taken: as many definitions as a scheme may have, with as many pieces, as great numbers, as many letters.
func TestLowerAtLimits(t *testing.T) {
	s := sample()
	s.Defs = append(s.Defs, slices.Repeat(numsOf(1), 4990)...)
	s.Pieces = pieces(2, 3, 4, 5, 4999, 4999, 0, 0)
	want := plainLower(s)
	if len(want.Defs) != 5004 {
		t.Fatal("the test's own recurrence", len(want.Defs))
	}
	lowers(t, s, want)
	s = sample()
	s.Defs = append(s.Defs, numsOf(1<<56, -1<<56, 1<<57, -1<<57)...)
	s.Subst = []int{10, 11, 11, 10}
	s.Front, s.Back, s.Least = 10, 10, 11
	s.Pieces = slices.Repeat(pieces(10, 10), 4)
	lowers(t, s, plainLower(s))
	s = sample()
	s.Letters, s.Subst = "ABCDEFGHIJKLMNOPQRST", slices.Repeat([]int{9, 1, 0, 5}, 100)
	lowers(t, s, plainLower(s))
	s = api.Scheme{Letters: "AC", Defs: numsOf(0), Subst: []int{0, 0, 0, 0}, Mode: 1, Pieces: pieces(0, 0)}
	lowers(t, s, plainLower(s))
}

// wrongSchemes are ways to make a scheme wrong that is right, by one thing each.
func wrongSchemes() map[string]func(s *api.Scheme) {
	ways := map[string]func(s *api.Scheme){
		"no letters":           func(s *api.Scheme) { s.Letters = "" },
		"one letter":           func(s *api.Scheme) { s.Letters, s.Subst = "A", []int{0} },
		"like letters":         func(s *api.Scheme) { s.Letters = "AA" },
		"small letters":        func(s *api.Scheme) { s.Letters = "ac" },
		"a letter more":        func(s *api.Scheme) { s.Letters = "ACG" },
		"too many letters":     func(s *api.Scheme) { s.Letters, s.Subst = "ABCDEFGHIJKLMNOPQRSTU", make([]int, 441) },
		"no Defs":              func(s *api.Scheme) { s.Defs = nil },
		"too many Defs":        func(s *api.Scheme) { s.Defs = append(s.Defs, slices.Repeat(numsOf(1), 5001-len(s.Defs))...) },
		"too many, no pieces":  func(s *api.Scheme) { s.Pieces = nil; s.Defs = slices.Repeat(numsOf(1), 5001) },
		"a wrong Op":           func(s *api.Scheme) { s.Defs = append(s.Defs, api.Def{}) },
		"a wrong place":        func(s *api.Scheme) { s.Defs = append(s.Defs, def(api.DefNeg, len(s.Defs), 0)) },
		"an opening's place":   func(s *api.Scheme) { s.Front = len(s.Defs) },
		"a piece's of opening": func(s *api.Scheme) { s.Pieces[1].Open = len(s.Defs) },
		"a number too great":   func(s *api.Scheme) { s.Defs = append(s.Defs, numsOf(1<<57+1)...) },
		"Subst too short":      func(s *api.Scheme) { s.Subst = s.Subst[:3] },
		"Subst too long":       func(s *api.Scheme) { s.Subst = append(s.Subst, 0) },
		"too many pieces":      func(s *api.Scheme) { s.Pieces = slices.Repeat(s.Pieces[:1], 5) },
		"Mode 0":               func(s *api.Scheme) { s.Mode = 0 },
		"Mode 5":               func(s *api.Scheme) { s.Mode = 5 },
		"Lo not banded":        func(s *api.Scheme) { s.Banded, s.Lo, s.Hi = false, 1, 0 },
		"Hi not banded":        func(s *api.Scheme) { s.Banded, s.Lo, s.Hi = false, 0, 1 },
		"Lo above Hi":          func(s *api.Scheme) { s.Lo, s.Hi = s.Hi, s.Lo },
		"an Open below 0":      func(s *api.Scheme) { s.Pieces[1].Open = 1 },
		"an Extend below 0":    func(s *api.Scheme) { s.Pieces[0].Extend = 1 },
		"Front below 0":        func(s *api.Scheme) { s.Front = 1 },
		"Back below 0":         func(s *api.Scheme) { s.Back = 9 },
		"all wrong": func(s *api.Scheme) {
			*s = api.Scheme{Letters: "?", Defs: make([]api.Def, 6000), Subst: []int{-1}, Pieces: pieces(-1, -1), Mode: -1, Lo: 1, Front: -1, Back: -1, Least: -1}
		},
	}
	for what, field := range map[string]func(s *api.Scheme) *int{
		"Subst 0": func(s *api.Scheme) *int { return &s.Subst[0] }, "Subst 3": func(s *api.Scheme) *int { return &s.Subst[3] },
		"Open": func(s *api.Scheme) *int { return &s.Pieces[0].Open }, "the last Extend": func(s *api.Scheme) *int { return &s.Pieces[1].Extend },
		"Lo": func(s *api.Scheme) *int { return &s.Lo }, "Hi": func(s *api.Scheme) *int { return &s.Hi },
		"Front": func(s *api.Scheme) *int { return &s.Front }, "Back": func(s *api.Scheme) *int { return &s.Back }, "Least": func(s *api.Scheme) *int { return &s.Least },
	} {
		for _, p := range []int{-1, 10, math.MinInt, math.MaxInt} {
			ways[what+" is "+strconv.Itoa(p)] = func(s *api.Scheme) { *field(s) = p }
		}
		for _, v := range []int{1<<56 + 1, -1<<56 - 1} {
			ways[what+" at "+strconv.Itoa(v)] = func(s *api.Scheme) { *field(s) = len(s.Defs); s.Defs = append(s.Defs, numsOf(v)...) }
		}
	}
	return ways
}

func TestWrongSchemes(t *testing.T) {
	refuses(t, "nothing", api.Scheme{})
	for what, change := range wrongSchemes() {
		s := sample()
		change(&s)
		refuses(t, what, s)
	}
}

// What chapter 9 tells of a source is taken.
func TestLowerOfSources(t *testing.T) {
	for source, states := range map[string]int{
		`alphabet "AC"; match 1; mismatch 0; gap 3, 2; mode fit;`:                                          3,
		`alphabet "ACGT"; match 2; mismatch -3; gap 4, 1; mode global;`:                                    3,
		`alphabet "ACGT"; match 2; mismatch -3; mode local;`:                                               1,
		`alphabet "ACGT"; match 2; mismatch -3; gap 1, 3; gap 10, 0; mode extend; clip 0, 5;`:              5,
		`alphabet "AC"; match 1; mismatch -1; gap 0, 0; gap 0, 0; gap 0, 0; gap 0, 0; mode local;`:         9,
		`let g = 2 * 3; alphabet "AC"; match g; mismatch -g; gap g, g; mode fit; band -g .. g; least g;`:   3,
		`let g = 72057594037927936; alphabet "AC"; match g; mismatch -g; gap g, g; mode fit; clip g, g;`:   3,
		`alphabet "AC"; match 0; mismatch 0; gap max(1, 2, 3), min(4, 5); mode global; band 2 - 3 .. 3*7;`: 3,
	} {
		s := schemeOf(t, source)
		r := plainLower(s)
		if len(r.States) != states {
			t.Fatal(source, r)
		}
		lowers(t, s, r)
	}
}
