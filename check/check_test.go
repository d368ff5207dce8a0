package check_test

import (
	"fmt"
	"reflect"
	"slices"
	"strconv"
	"strings"
	"testing"

	"helix/api"
	"helix/check"
	"helix/syntax"
)

// Trees, made without the packages that are looked at.

func num(n int) api.Expr { return api.Expr{Kind: api.ExprNum, Num: n} }

func name(s string) api.Expr { return api.Expr{Kind: api.ExprName, Text: s} }

func text(s string) api.Expr { return api.Expr{Kind: api.ExprText, Text: s} }

func of(kind int, kids ...api.Expr) api.Expr { return api.Expr{Kind: kind, Kids: kids} }

func item(kind int, args ...api.Expr) api.Item { return api.Item{Kind: kind, Args: args} }

func named(kind int, name string, args ...api.Expr) api.Item {
	return api.Item{Kind: kind, Name: name, Args: args}
}

func tree(items ...api.Item) api.Tree { return api.Tree{Items: items} }

// seen is what is told of a tree, a scheme, or a part of one.
func seen(x any) string {
	s := fmt.Sprintf("%+v", x)
	if len(s) > 400 {
		return s[:200] + " .. " + s[len(s)-200:]
	}
	return s
}

// same holds two schemes, or two models, against one another; a nil list is an empty one.
func same(a, b any) bool { return fmt.Sprintf("%#v", flat(a)) == fmt.Sprintf("%#v", flat(b)) }

func flat(x any) any {
	switch v := x.(type) {
	case api.Scheme:
		v.Defs, v.Subst, v.Pieces = slices.Concat(v.Defs), slices.Concat(v.Subst), slices.Concat(v.Pieces)
		return v
	case api.Model:
		v.Subst, v.Gaps = slices.Concat(v.Subst), slices.Concat(v.Gaps)
		return v
	}
	return x
}

// parse reads a source that the test itself must have right.
func parse(t *testing.T, s string) api.Tree {
	t.Helper()
	tree, f := syntax.Parse(s)
	if f != (api.Fault{}) {
		t.Fatalf("the test's own source %q: %v", s, f)
	}
	return tree
}

// means holds a source to its scheme, and that to what P9.5 says of it.
func means(t *testing.T, s string, want api.Scheme) {
	t.Helper()
	got, f := check.Check(parse(t, s))
	if f != (api.Fault{}) || !same(got, want) {
		t.Errorf("P9.1: %q: %v, %s; want %s", s, f, seen(got), seen(want))
		return
	}
	isRight(t, got)
}

// isRight holds a scheme that Check tells to be right, and to be told in numbers.
func isRight(t *testing.T, s api.Scheme) {
	t.Helper()
	if !check.Right(s) {
		t.Errorf("P9.5: Right(%s): false", seen(s))
	}
	if m, e := check.Numbers(s); e != api.OK || !same(m, plainNumbers(s)) {
		t.Errorf("P9.4: Numbers(%s): %s, error %d; want %s", seen(s), seen(m), e, seen(plainNumbers(s)))
	}
}

// faults holds a source to its fault, and that no scheme is told with it.
func faults(t *testing.T, s string, code api.Errno, at int) {
	t.Helper()
	faultsTree(t, parse(t, s), code, at)
}

func faultsTree(t *testing.T, tree api.Tree, code api.Errno, at int) {
	t.Helper()
	got, f := check.Check(tree)
	if want := (api.Fault{Code: code, At: at}); f != want || !same(got, api.Scheme{}) {
		t.Errorf("P9.1: Check(%s): %v, %s; want %v", seen(tree), f, seen(got), want)
	}
}

// A source is written with the mark ^ ahead of what is wrong.
func faultsAt(t *testing.T, code api.Errno, marked string) {
	t.Helper()
	at := strings.Index(marked, "^")
	if at < 0 || strings.Count(marked, "^") != 1 {
		t.Fatalf("the test's own source %q has not one mark", marked)
	}
	faults(t, strings.Replace(marked, "^", "", 1), code, at)
}

// numsOf are definitions that are numbers.
func numsOf(l ...int) []api.Def {
	var defs []api.Def
	for _, n := range l {
		defs = append(defs, api.Def{Op: api.DefNum, Num: n})
	}
	return defs
}

func TestExamples(t *testing.T) {
	means(t, `let g = 2 + 2; alphabet "AC"; match 1; mismatch -g; gap g, 1; mode fit;`, api.Scheme{
		Letters: "AC",
		Defs: []api.Def{
			{Op: api.DefNum, Num: 2}, {Op: api.DefNum, Num: 2}, {Op: api.DefAdd, A: 0, B: 1}, {Op: api.DefNum, Num: 1},
			{Op: api.DefNeg, A: 2}, {Op: api.DefNum, Num: 1}, {Op: api.DefNum}, {Op: api.DefNum},
		},
		Subst: []int{3, 4, 4, 3}, Pieces: []api.Piece{{Open: 2, Extend: 5}}, Mode: api.Fit, Front: 6, Back: 6, Least: 7,
	})
	faults(t, `let a = b; let b = 1;`, api.ErrNone, 8)
	faults(t, `let a = "AC" + 1;`, api.ErrType, 8)
	faults(t, `match "A";`, api.ErrType, 6)
	faults(t, `alphabet 3;`, api.ErrType, 9)
	faults(t, `let a = 72057594037927936 + 1;`, api.ErrRange, 26)
	faults(t, `gap 1, -1;`, api.ErrRange, 7)
	faults(t, `band 2 .. 1;`, api.ErrRange, 10)
	faults(t, `pair "AC", 1;`, api.ErrMissing, 0)
	faults(t, `alphabet "AC"; pair "AG", 1;`, api.ErrAlphabet, 20)
	faults(t, ``, api.ErrMissing, 0)
	faults(t, `alphabet "AC"; mode fit;`, api.ErrMissing, 15)
	// And those of the whole.
	faults(t, `alphabet "AC"; match 1; mode global;`, api.ErrMissing, 24)
	faults(t, `let a = 1; let a = 2;`, api.ErrTwice, 11)
	means(t, `alphabet "ACGT"; match 2; mismatch -3; gap 4, 1; mode global;`, api.Scheme{
		Letters: "ACGT",
		Defs:    append([]api.Def{{Op: api.DefNum, Num: 2}, {Op: api.DefNum, Num: 3}, {Op: api.DefNeg, A: 1}}, numsOf(4, 1, 0, 0)...),
		Subst:   []int{0, 2, 2, 2, 2, 0, 2, 2, 2, 2, 0, 2, 2, 2, 2, 0}, Pieces: []api.Piece{{Open: 3, Extend: 4}},
		Mode: api.Global, Front: 5, Back: 5, Least: 6,
	})
}

func TestModel(t *testing.T) {
	s, f := check.Check(parse(t, `let g = 2 + 2; alphabet "AC"; match 1; mismatch -g; gap g, 1; gap 7, 0; pair "CA", 8; mode extend; band -g .. g * g; clip 5, 6; least -9;`))
	m, e := check.Numbers(s)
	want := api.Model{Letters: 2, Subst: []int{1, -4, 8, 1}, Gaps: []api.Gap{{Open: 4, Extend: 1}, {Open: 7}}, Mode: api.Extend, Banded: true, Lo: -4, Hi: 16, Front: 5, Back: 6, Least: -9}
	if f != (api.Fault{}) || e != api.OK || !reflect.DeepEqual(m, want) {
		t.Errorf("P9.4: %v, error %d: %+v; want %+v", f, e, m, want)
	}
	s, f = check.Check(parse(t, `alphabet "ACGT"; mode local; match 5; mismatch -5;`))
	m, e = check.Numbers(s)
	want = api.Model{Letters: 4, Subst: []int{5, -5, -5, -5, -5, 5, -5, -5, -5, -5, 5, -5, -5, -5, -5, 5}, Mode: api.Local}
	if f != (api.Fault{}) || e != api.OK || !same(m, want) {
		t.Errorf("P9.4: %v, error %d: %+v; want %+v", f, e, m, want)
	}
}

// base is a scheme of two letters, whose own definitions are 1 and 2, and, behind what comes, the 0 of clip and that of least.
const base = `alphabet "AC"; match 1; mismatch 2; mode global;`

// baseOf is its scheme with further definitions behind the two, and clip's and least's behind those.
func baseOf(further ...api.Def) api.Scheme {
	n := 2 + len(further)
	return api.Scheme{
		Letters: "AC", Defs: slices.Concat(numsOf(1, 2), further, numsOf(0, 0)), Subst: []int{0, 1, 1, 0}, Mode: api.Global,
		Front: n, Back: n, Least: n + 1,
	}
}

func TestEachItem(t *testing.T) {
	means(t, base, baseOf())
	s := baseOf(numsOf(3)...)
	means(t, base+` let a = 3;`, s)
	means(t, base+` let a = "x";`, baseOf())
	for n, way := range []string{"global", "fit", "local", "extend"} {
		s := baseOf()
		s.Mode = n + 1
		means(t, strings.Replace(base, "global", way, 1), s)
	}
	s = baseOf(numsOf(7)...)
	s.Subst = []int{0, 2, 1, 0}
	means(t, base+` pair "AC", 7;`, s)
	s.Subst = []int{0, 1, 2, 0}
	means(t, base+` pair "CA", 7;`, s)
	s.Subst = []int{2, 1, 1, 0}
	means(t, base+` pair "AA", 7;`, s)
	s.Subst = []int{0, 1, 1, 2}
	means(t, base+` pair "CC", 7;`, s)
	s = baseOf(numsOf(7, 8)...)
	s.Subst = []int{0, 2, 3, 0}
	means(t, base+` pair "AC", 7; pair "CA", 8;`, s)
	s = baseOf(numsOf(5, 6)...)
	s.Pieces = []api.Piece{{Open: 2, Extend: 3}}
	means(t, base+` gap 5, 6;`, s)
	s.Pieces = nil
	s.Banded, s.Lo, s.Hi = true, 2, 3
	means(t, base+` band 5 .. 6;`, s)
	s = api.Scheme{Letters: "AC", Defs: numsOf(1, 2, 5, 6, 0), Subst: []int{0, 1, 1, 0}, Mode: api.Global, Front: 2, Back: 3, Least: 4}
	means(t, base+` clip 5, 6;`, s)
	s = api.Scheme{Letters: "AC", Defs: numsOf(1, 2, 5, 0), Subst: []int{0, 1, 1, 0}, Mode: api.Global, Front: 3, Back: 3, Least: 2}
	means(t, base+` least 5;`, s)
	s = api.Scheme{Letters: "AC", Defs: numsOf(1, 2, 9, 5, 6), Subst: []int{0, 1, 1, 0}, Mode: api.Global, Front: 3, Back: 4, Least: 2}
	means(t, base+` least 9; clip 5, 6;`, s)
}

// Items may stand in any order, but for pairs and names.
func TestAnyOrder(t *testing.T) {
	means(t, `least 9; clip 5, 6; mode fit; band 3 .. 4; gap 7, 8; mismatch 2; match 1; alphabet "CA"; pair "AC", 0;`, api.Scheme{
		Letters: "CA", Defs: numsOf(9, 5, 6, 3, 4, 7, 8, 2, 1, 0), Subst: []int{8, 7, 9, 8}, Pieces: []api.Piece{{Open: 5, Extend: 6}},
		Mode: api.Fit, Banded: true, Lo: 3, Hi: 4, Front: 1, Back: 2, Least: 0,
	})
}

// Two letters need no match and no mismatch, if pairs say all.
func TestPairsSayAll(t *testing.T) {
	all := `alphabet "AC"; pair "AC", 1; pair "CA", 2; pair "AA", 3; pair "CC", 4; mode fit;`
	means(t, all, api.Scheme{Letters: "AC", Defs: numsOf(1, 2, 3, 4, 0, 0), Subst: []int{2, 0, 1, 3}, Mode: api.Fit, Front: 4, Back: 4, Least: 5})
	means(t, strings.Replace(all, `pair "AA", 3; pair "CC", 4;`, `match 3;`, 1),
		api.Scheme{Letters: "AC", Defs: numsOf(1, 2, 3, 0, 0), Subst: []int{2, 0, 1, 2}, Mode: api.Fit, Front: 3, Back: 3, Least: 4})
	means(t, strings.Replace(all, `pair "AC", 1; pair "CA", 2;`, `mismatch 1;`, 1),
		api.Scheme{Letters: "AC", Defs: numsOf(1, 3, 4, 0, 0), Subst: []int{1, 0, 0, 2}, Mode: api.Fit, Front: 3, Back: 3, Least: 4})
	for _, pair := range []string{`pair "AC", 1; `, `pair "CA", 2; `, `pair "AA", 3; `, `pair "CC", 4; `} {
		s := strings.Replace(all, pair, "", 1)
		faults(t, s, api.ErrMissing, strings.Index(s, "mode"))
		other := `mismatch`
		if pair[6] != pair[7] {
			other = `match`
		}
		faults(t, s+" "+other+` 1;`, api.ErrMissing, len(s)+1)
	}
}

// Three letters and more: places by row and column.
func TestManyLetters(t *testing.T) {
	letters := "QWERTZUIOPASDFGHJKLY"
	for n := 3; n <= 20; n++ {
		src := `alphabet "` + letters[:n] + `"; match 1; mismatch 2; mode fit;`
		want := api.Scheme{Letters: letters[:n], Mode: api.Fit, Defs: numsOf(1, 2)}
		for a := range n {
			for b := range n {
				place := 1
				if a == b {
					place = 0
				}
				want.Subst = append(want.Subst, place)
			}
		}
		for k, pair := range [][2]int{{n - 1, 0}, {n / 2, n - 1}, {n - 1, n - 1}} {
			src += ` pair "` + string(letters[pair[0]]) + string(letters[pair[1]]) + `", ` + strconv.Itoa(k) + `;`
			want.Defs = append(want.Defs, numsOf(k)...)
			want.Subst[pair[0]*n+pair[1]] = 2 + k
		}
		want.Defs = append(want.Defs, numsOf(0, 0)...)
		want.Front, want.Back, want.Least = 5, 5, 6
		means(t, src, want)
	}
}

func TestTwice(t *testing.T) {
	faultsAt(t, api.ErrTwice, `let a = 1; ^let a = 1;`)
	faultsAt(t, api.ErrTwice, `let a = "x"; let b = 1; ^let a = a;`)
	faultsAt(t, api.ErrTwice, `let a = 1; ^let a = b;`)
	faultsAt(t, api.ErrTwice, `let a = 1; ^let a = "x" + 1;`)
	for _, i := range []string{`alphabet "AC"`, `match 1`, `mismatch 1`, `least 1`, `mode fit`, `band 1 .. 2`, `clip 1, 2`} {
		faultsAt(t, api.ErrTwice, i+`; ^`+i+`;`)
		word, _, _ := strings.Cut(i, " ")
		// What is said again is told ahead of what is wrong within.
		switch word {
		case "mode":
			faultsAt(t, api.ErrTwice, i+`; ^mode global;`)
		case "band":
			faultsAt(t, api.ErrTwice, i+`; match 1; ^band "x" .. a;`)
			faultsAt(t, api.ErrTwice, i+`; match 1; ^band 2 .. 1;`)
		case "clip":
			faultsAt(t, api.ErrTwice, i+`; match 1; ^clip b, -1;`)
			faultsAt(t, api.ErrTwice, i+`; match 1; ^clip -1, 1;`)
		default:
			faultsAt(t, api.ErrTwice, i+`; gap 1, 2; ^`+word+` b;`)
			faultsAt(t, api.ErrTwice, i+`; gap 1, 2; ^`+word+` 1 + "x";`)
			faultsAt(t, api.ErrTwice, i+`; gap 1, 2; ^`+word+` 72057594037927936 * 2;`)
			faultsAt(t, api.ErrTwice, i+`; gap 1, 2; ^`+word+` 1;`)
			faultsAt(t, api.ErrTwice, i+`; gap 1, 2; ^`+word+` "x";`)
		}
	}
}

func TestNames(t *testing.T) {
	faultsAt(t, api.ErrNone, `let a = ^b; let b = 1;`)
	faultsAt(t, api.ErrNone, `let a = ^a;`)
	faultsAt(t, api.ErrNone, `let a = 1; let b = a + ^b;`)
	faultsAt(t, api.ErrNone, `let aa = 1; match ^a;`)
	faultsAt(t, api.ErrNone, `match ^a; let a = 1;`)
	faultsAt(t, api.ErrNone, `least min(1, max(-^a, b));`)
	for _, i := range []string{`alphabet ^a`, `match ^a`, `mismatch ^a`, `least ^a`, `gap ^a, 1`, `gap 1, ^a`, `gap ^a, "x"`, `clip ^a, 1`, `clip 1, ^a`, `clip ^a, b`, `band ^a .. 1`, `band 1 .. ^a`, `band ^a .. "x"`} {
		faultsAt(t, api.ErrNone, i+`;`)
	}
	faultsAt(t, api.ErrNone, `alphabet "AC"; pair ^a, 1;`)
	faultsAt(t, api.ErrNone, `alphabet "AC"; pair "AC", ^a;`)
	faultsAt(t, api.ErrNone, `alphabet "AC"; pair ^a, b;`)
	// A name is what its let is: its place, and no definition more; or its text.
	s := baseOf(numsOf(3)...)
	s.Pieces = []api.Piece{{Open: 2, Extend: 2}, {Open: 2, Extend: 0}}
	means(t, `let m = 1; alphabet "AC"; match m; mismatch 2; let a = 3; let b = a; gap a, b; gap b, m; mode global;`, s)
	means(t, `let x = "AC"; let y = x; alphabet y; match 1; mismatch 2; mode global;`, baseOf())
	s = baseOf(numsOf(4)...)
	s.Subst[1] = 2
	means(t, `let x = "AC"; alphabet x; match 1; mismatch 2; pair x, 4; mode global;`, s)
	faultsAt(t, api.ErrType, `let x = "AC"; let y = x; match ^y;`)
	faultsAt(t, api.ErrType, `let x = "AC"; least 1 + ^x;`)
	faultsAt(t, api.ErrType, `let x = "AC"; let y = min(1, ^x, "y");`)
	faultsAt(t, api.ErrType, `let x = 1; alphabet ^x;`)
	faultsAt(t, api.ErrType, `alphabet "AC"; let x = 1; pair ^x, 2;`)
	faultsAt(t, api.ErrAlphabet, `let x = "AA"; alphabet ^x;`)
	// A name reads like no other, and a text like a name is none.
	faultsAt(t, api.ErrNone, `let a = 1; match ^a_;`)
	faultsAt(t, api.ErrType, `let a = 1; match ^"a";`)
}

func TestTypes(t *testing.T) {
	for _, i := range []string{
		`alphabet ^1`, `alphabet 1 ^- 2`, `alphabet ^min(1)`, `match ^"x"`, `mismatch ^""`, `least ^"1"`, `gap ^"x", 1`, `gap 1, ^"x"`, `gap ^"x", "y"`, `gap ^"x", -1`, `gap ^"x", a`,
		`clip ^"x", 1`, `clip 1, ^"x"`, `clip ^"x", "y"`, `clip ^"x", a`, `band ^"x" .. 1`, `band 1 .. ^"x"`, `band ^"x" .. a`, `band ^"x" .. "y"`,
		`let a = -^"x"`, `let a = ^"x" + "y"`, `let a = 1 - ^"y"`, `let a = ^"x" * 1`, `let a = min(^"x")`, `let a = max(^"x")`, `let a = min(1, 2, ^"x", 4, "y")`, `let a = max(^"x", "y")`,
		`let a = 1 + (2 * -^"x")`, `let a = (1 + ^"x") + "y"`, `let a = "y" + (1 + ^"x")`, `alphabet ^"AC" + "GT"`, `alphabet -^"AC"`, `alphabet max(^"AC")`,
	} {
		faultsAt(t, api.ErrType, i+`;`)
	}
	faultsAt(t, api.ErrType, `alphabet "AC"; pair ^1, 2;`)
	faultsAt(t, api.ErrType, `alphabet "AC"; pair ^1, a;`)
	faultsAt(t, api.ErrType, `alphabet "AC"; pair ^-1, "x";`)
	faultsAt(t, api.ErrType, `alphabet "AC"; pair "CC", ^"x";`)
	faultsAt(t, api.ErrType, `alphabet "AC"; pair -^"AC", 1;`)
	// All Kids are asked wholly, then the expression itself.
	faultsAt(t, api.ErrNone, `let a = "x" + ^b;`)
	faultsAt(t, api.ErrNone, `let a = min("x", "y", -^b);`)
	faultsAt(t, api.ErrNone, `let a = min(^b, -"x");`)
	faultsAt(t, api.ErrType, `let a = min(-^"x", b);`)
	faultsAt(t, api.ErrRange, `let a = "x" + (72057594037927936 ^+ 1);`)
	faultsAt(t, api.ErrType, `let a = "x" - -^"y";`)
	faultsAt(t, api.ErrRange, `let a = (72057594037927936 ^+ 1) + b;`)
	faultsAt(t, api.ErrNone, `let a = ^b + (72057594037927936 + 1);`)
	faultsAt(t, api.ErrType, `let a = (72057594037927936 + ^"x") * 2;`)
}

func TestRange(t *testing.T) {
	big := strconv.Itoa(1 << 56)
	defs := func(l ...api.Def) api.Scheme { return baseOf(l...) }
	n := func(n int) api.Def { return api.Def{Op: api.DefNum, Num: n} }
	means(t, base+` let a = `+big+`;`, defs(n(1<<56)))
	means(t, base+` let a = -`+big+`;`, defs(n(1<<56), api.Def{Op: api.DefNeg, A: 2}))
	means(t, base+` let a = 72057594037927935 + 1;`, defs(n(1<<56-1), n(1), api.Def{Op: api.DefAdd, A: 2, B: 3}))
	means(t, base+` let a = -`+big+` + 0;`, defs(n(1<<56), api.Def{Op: api.DefNeg, A: 2}, n(0), api.Def{Op: api.DefAdd, A: 3, B: 4}))
	means(t, base+` let a = 0 - `+big+`;`, defs(n(0), n(1<<56), api.Def{Op: api.DefSub, A: 2, B: 3}))
	means(t, base+` let a = 268435456 * 268435456;`, defs(n(1<<28), n(1<<28), api.Def{Op: api.DefMul, A: 2, B: 3}))
	means(t, base+` let a = -268435456 * 268435456;`, defs(n(1<<28), api.Def{Op: api.DefNeg, A: 2}, n(1<<28), api.Def{Op: api.DefMul, A: 3, B: 4}))
	for _, s := range []string{
		big + ` ^+ 1`, `1 ^+ ` + big, `-` + big + ` ^- 1`, `-1 ^- ` + big, `-` + big + ` ^+ -1`, `1 ^- -` + big, big + ` ^+ ` + big, big + ` ^- -` + big,
		`2 ^* 36028797018963969`, `-2 ^* 36028797018963969`, `2 ^* -36028797018963969`, `268435457 ^* 268435456`, big + ` ^* 2`, big + ` ^* -2`, `-` + big + ` ^* 2`,
		big + ` ^* ` + big, `-` + big + ` ^* ` + big, `-` + big + ` ^* -` + big, big + ` ^* 256`, big + ` ^* 128`, big + ` ^* 512`, `4294967296 ^* 4294967296`, `4294967296 ^* 2147483648`,
		// These come out as small ones, if bits are lost.
		`65536 * 65536 ^* 4294967296 + 1`, `72057594037927935 ^* 72057594037927936`, `36028797018963969 ^* 512`,
	} {
		faultsAt(t, api.ErrRange, `let a = `+s+`;`)
		faultsAt(t, api.ErrRange, base+` least `+s+`;`)
		faultsAt(t, api.ErrRange, base+` gap 1, min(2, `+s+`, b);`)
		faultsAt(t, api.ErrRange, base+` band -(`+s+`) .. b;`)
	}
	faultsAt(t, api.ErrRange, `gap 1, ^-1;`)
	faultsAt(t, api.ErrRange, `gap ^-1, 1;`)
	faultsAt(t, api.ErrRange, `gap ^-1, -1;`)
	faultsAt(t, api.ErrRange, `gap ^-1, "x";`)
	faultsAt(t, api.ErrRange, `gap ^-1, a;`)
	faultsAt(t, api.ErrRange, `gap 0, 1 ^- 2;`)
	faultsAt(t, api.ErrRange, `clip ^-1, 1;`)
	faultsAt(t, api.ErrRange, `clip 1, ^-1;`)
	faultsAt(t, api.ErrRange, `clip ^-1, b;`)
	faultsAt(t, api.ErrRange, `band 2 .. ^1;`)
	faultsAt(t, api.ErrRange, `band 0 .. ^-1;`)
	faultsAt(t, api.ErrRange, `band -1 .. ^-2;`)
	faultsAt(t, api.ErrRange, `band `+big+` .. ^0;`)
	faultsAt(t, api.ErrRange, `band `+big+` .. ^-`+big+`;`)
	faultsAt(t, api.ErrRange, `let a = -1; gap ^a, 1;`)
	s := baseOf(n(0), n(0))
	s.Pieces = []api.Piece{{Open: 2, Extend: 3}}
	means(t, base+` gap 0, 0;`, s)
	s.Pieces = nil
	s.Banded, s.Lo, s.Hi = true, 2, 3
	means(t, base+` band 0 .. 0;`, s)
	s = baseOf(n(1<<56), api.Def{Op: api.DefNeg, A: 2}, n(1<<56))
	s.Banded, s.Lo, s.Hi = true, 3, 4
	means(t, base+` band -`+big+` .. `+big+`;`, s)
	s = baseOf(n(1<<56), n(1<<56))
	s.Pieces = []api.Piece{{Open: 2, Extend: 3}}
	means(t, base+` gap `+big+`, `+big+`;`, s)
	for _, i := range []string{`match -`, `mismatch -`, `least -`} {
		src := `alphabet "AC"; mode fit; ` + i + big + `;`
		for _, other := range []string{`match `, `mismatch `} {
			if !strings.HasPrefix(i, other) {
				src += other + big + `;`
			}
		}
		got, f := check.Check(parse(t, src))
		if f != (api.Fault{}) {
			t.Errorf("P9.1: %q: %v", src, f)
			continue
		}
		isRight(t, got)
	}
}

func TestAlphabet(t *testing.T) {
	for _, s := range []string{"", "A", "AA", "ac", "Ac", "AC1", "AC ", "ABCDEFGHIJKLMNOPQRSTU", "ACA", "-", "AC,GT"} {
		faultsAt(t, api.ErrAlphabet, `alphabet ^"`+s+`";`)
		faultsAt(t, api.ErrAlphabet, `mode fit; let a = "`+s+`"; alphabet ^a; pair 1, 2;`)
	}
	for _, s := range []string{"", "A", "ACA", "AG", "GA", "A ", " A", "A-", "11", "CAC", "AB", "@A", "A["} {
		faultsAt(t, api.ErrAlphabet, `alphabet "AC"; pair ^"`+s+`", 1;`)
		faultsAt(t, api.ErrAlphabet, `alphabet "AC"; pair "AC", 1; let x = "`+s+`"; pair ^x, b;`)
	}
}

func TestPairs(t *testing.T) {
	faultsAt(t, api.ErrMissing, `^pair "AC", 1; alphabet "AC";`)
	faultsAt(t, api.ErrMissing, `match 1; ^pair a, b; alphabet "AC";`)
	faultsAt(t, api.ErrMissing, `^pair 1, 1;`)
	faultsAt(t, api.ErrMissing, `^pair "x" + 1, 1;`)
	const head = `alphabet "ACG"; pair "AC", 1; `
	faultsAt(t, api.ErrTwice, head+`^pair "AC", 1;`)
	faultsAt(t, api.ErrTwice, head+`^pair "AC", b;`)
	faultsAt(t, api.ErrTwice, head+`^pair "AC", "x";`)
	faultsAt(t, api.ErrTwice, head+`let x = "AC"; ^pair x, 2;`)
	faultsAt(t, api.ErrTwice, head+`pair "CA", 2; pair "AA", 3; ^pair "CA", 4;`)
	faultsAt(t, api.ErrTwice, head+`pair "AA", 2; ^pair "AA", 2;`)
	faultsAt(t, api.ErrAlphabet, head+`pair ^"AT", "x";`)
	s := api.Scheme{
		Letters: "ACG", Defs: numsOf(1, 2, 3, 4, 5, 0, 0), Subst: []int{2, 0, 4, 1, 3, 4, 4, 4, 3}, Mode: api.Fit,
		Front: 5, Back: 5, Least: 6,
	}
	means(t, head+`pair "CA", 2; pair "AA", 3; match 4; mismatch 5; mode fit;`, s)
	// Small letters are letters of an alphabet too: those of the same names.
	means(t, strings.Replace(head, `"AC"`, `"aC"`, 1)+`pair "ca", 2; pair "Aa", 3; match 4; mismatch 5; mode fit;`, s)
	faultsAt(t, api.ErrTwice, head+`^pair "ac", 1;`)
	faultsAt(t, api.ErrTwice, head+`pair "cc", 1; ^pair "CC", 1;`)
	faultsAt(t, api.ErrAlphabet, head+`pair ^"at", 1;`)
}

func TestGaps(t *testing.T) {
	src := base
	want := baseOf(numsOf(10, 11, 12, 13, 14, 15, 16, 17)...)
	for n := range 4 {
		src += ` gap ` + strconv.Itoa(10+2*n) + `, ` + strconv.Itoa(11+2*n) + `;`
		want.Pieces = append(want.Pieces, api.Piece{Open: 2 + 2*n, Extend: 3 + 2*n})
	}
	means(t, src, want)
	faultsAt(t, api.ErrMany, src+` ^gap 1, 2;`)
	faultsAt(t, api.ErrMany, src+` ^gap -1, 2;`)
	faultsAt(t, api.ErrMany, src+` ^gap "x", a;`)
	faultsAt(t, api.ErrMany, src+` least 1; ^gap a, 1;`)
	// The same cost twice is two pieces.
	s := baseOf(numsOf(1, 2, 1, 2)...)
	s.Pieces = []api.Piece{{Open: 2, Extend: 3}, {Open: 4, Extend: 5}}
	means(t, base+` gap 1, 2; gap 1, 2;`, s)
}

func TestMissing(t *testing.T) {
	faultsAt(t, api.ErrMissing, `alphabet "AC"; match 1; ^mismatch 1;`)
	faultsAt(t, api.ErrMissing, `match 1; mismatch 1; ^mode fit;`)
	faultsAt(t, api.ErrMissing, `alphabet "AC"; match 1; ^mode fit;`)
	faultsAt(t, api.ErrMissing, `alphabet "AC"; mismatch 1; ^mode fit;`)
	faultsAt(t, api.ErrMissing, `alphabet "AC"; mode fit; ^mismatch 1;`)
	faultsAt(t, api.ErrMissing, `mode fit; match 1; mismatch 1; ^let a = 3;`)
	faultsAt(t, api.ErrMissing, `^let a = 3;`)
	faultsAt(t, api.ErrMissing, `alphabet "AC"; match 1; mode fit; pair "AC", 1; ^least 1;`)
	faultsTree(t, api.Tree{}, api.ErrMissing, 0)
	faultsTree(t, api.Tree{Items: []api.Item{}}, api.ErrMissing, 0)
	// What is wrong in an item stands ahead of what is missing behind all.
	faultsAt(t, api.ErrNone, `match ^a;`)
	// At is the item's, whatever it is.
	i := named(api.ItemMode, "fit")
	i.At = -7
	faultsTree(t, tree(i), api.ErrMissing, -7)
}

// Of two items with faults the first is told; so is the first of two expressions.
func TestFirstFault(t *testing.T) {
	wrong := []struct {
		code api.Errno
		item string
	}{
		{api.ErrNone, `let z = ^y;`}, {api.ErrType, `least ^"x";`}, {api.ErrRange, `gap 1, ^-1;`}, {api.ErrMissing, `^pair "AC", 1;`},
		{api.ErrTwice, `mode fit; ^mode fit;`}, {api.ErrAlphabet, `alphabet ^"A";`}, {api.ErrRange, `band 1 .. ^0;`}, {api.ErrType, `clip -^"x", 1;`},
		{api.ErrMany, `gap 1, 1; gap 1, 1; gap 1, 1; gap 1, 1; ^gap 1, 1;`}, {api.ErrRange, `let q = 72057594037927936 ^* 3;`},
	}
	for _, a := range wrong {
		for _, b := range wrong {
			faultsAt(t, a.code, a.item+` `+strings.Replace(b.item, "^", "", 1))
			faultsAt(t, a.code, `let k = 3; `+a.item+` match 1; `+strings.Replace(b.item, "^", "", 1))
		}
	}
}
