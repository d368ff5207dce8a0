package syntax_test

import (
	"math"
	"slices"
	"strings"
	"testing"

	"helix/api"
	"helix/syntax"
)

// isRight holds a tree to whether it is right.
func isRight(t *testing.T, want bool, items ...api.Item) {
	t.Helper()
	if got := syntax.Right(tree(items...)); got != want {
		t.Errorf("P7.2: Right(%.200v): %t", items, got)
	}
}

// exprIs holds an expression to whether it may stand in a right tree, in each place that a tree has for one.
func exprIs(t *testing.T, want bool, e api.Expr) {
	t.Helper()
	one := num(1, 0)
	isRight(t, want, item(api.ItemLeast, 0, e))
	isRight(t, want, named(api.ItemLet, 0, "a", e))
	isRight(t, want, item(api.ItemGap, 0, e, one))
	isRight(t, want, item(api.ItemGap, 0, one, e))
	isRight(t, want, named(api.ItemMode, 0, "fit"), item(api.ItemMatch, 0, e), item(api.ItemMatch, 0, one))
	isRight(t, want, item(api.ItemLeast, 0, of(api.ExprNeg, 0, e)))
	isRight(t, want, item(api.ItemLeast, 0, of(api.ExprSub, 0, e, one)))
	isRight(t, want, item(api.ItemLeast, 0, of(api.ExprSub, 0, one, e)))
	isRight(t, want, item(api.ItemLeast, 0, of(api.ExprMax, 0, one, one, e, one)))
}

// some is n expressions that are right.
func some(n int) []api.Expr {
	l := make([]api.Expr, n)
	for k := range l {
		l[k] = num(k, 0)
	}
	return l
}

func TestRightTrees(t *testing.T) {
	isRight(t, true)
	if !syntax.Right(api.Tree{Items: []api.Item{}}) {
		t.Error("R4: a tree with an empty list of items is right")
	}
	for n := range 130 {
		if got := syntax.Right(tree(slices.Repeat([]api.Item{item(api.ItemLeast, 0, num(1, 0))}, n)...)); got != (n <= 100) {
			t.Errorf("P7.2: %d items: %t", n, got)
		}
	}
	least := item(api.ItemLeast, 0, num(1, 0))
	wrong := item(api.ItemLeast, 0)
	for n := range 4 {
		isRight(t, false, slices.Insert([]api.Item{least, least, least}, n, wrong)...)
		isRight(t, true, slices.Insert([]api.Item{least, least, least}, n, least)...)
	}
}

func TestRightItems(t *testing.T) {
	// How many expressions each kind has; kinds from 1 to 10.
	args := []int{1: 1, 1, 1, 1, 2, 2, 0, 2, 2, 1}
	names := []string{"", "a", "abcdefghijklmnop", "abcdefghijklmnopq", "A", "_", "1", "a b", "é", "\"a\"", "let", "min", "mode", "global", "fit", "local", "extend", "Global", "global ", "fits", strings.Repeat("a", 70000)}
	for kind := -2; kind <= 13; kind++ {
		for n := range 5 {
			for _, s := range names {
				want := kind >= 1 && kind <= 10 && n == args[kind]
				switch kind {
				case api.ItemLet:
					want = want && (s == "a" || s == "abcdefghijklmnop" || s == "fits")
				case api.ItemMode:
					want = want && hasWord(wayWords, s)
				default:
					want = want && s == ""
				}
				isRight(t, want, named(kind, 0, s, some(n)...))
			}
		}
	}
	for _, kind := range []int{math.MinInt, math.MaxInt, 1 << 32, 1<<32 + api.ItemLeast} {
		isRight(t, false, item(kind, 0, some(1)...))
	}
	// No list and an empty one are the same.
	for _, none := range [][]api.Expr{nil, {}} {
		isRight(t, true, api.Item{Kind: api.ItemMode, Name: "fit", Args: none})
		isRight(t, false, api.Item{Kind: api.ItemLeast, Args: none})
		exprIs(t, true, api.Expr{Kind: api.ExprNum, Num: 1, Kids: none})
		exprIs(t, true, api.Expr{Kind: api.ExprName, Text: "a", Kids: none})
		exprIs(t, true, api.Expr{Kind: api.ExprText, Kids: none})
		exprIs(t, false, api.Expr{Kind: api.ExprNeg, Kids: none})
		exprIs(t, false, api.Expr{Kind: api.ExprMin, Kids: none})
	}
}

func TestRightNumbers(t *testing.T) {
	for _, n := range []int{0, 1, 1<<56 - 1, 1 << 56} {
		exprIs(t, true, num(n, 0))
	}
	for _, n := range []int{-1, -2, 1<<56 + 1, 1 << 57, math.MaxInt, math.MinInt, -1 << 56} {
		exprIs(t, false, num(n, 0))
	}
	for kind := api.ExprName; kind <= api.ExprMax; kind++ {
		for _, n := range []int{-1, 0, 1} {
			e := api.Expr{Kind: kind, Num: n, Kids: some(kidsOf(kind))}
			if kind == api.ExprName || kind == api.ExprText {
				e.Text = "a"
			}
			exprIs(t, n == 0, e)
		}
	}
}

// kidsOf is how many Kids a kind of expression has, or may have.
func kidsOf(kind int) int {
	return []int{api.ExprNeg: 1, api.ExprAdd: 2, api.ExprSub: 2, api.ExprMul: 2, api.ExprMin: 3, api.ExprMax: 3}[kind]
}

func TestRightTexts(t *testing.T) {
	names := []string{"a", "z9_", "lets", "abcdefghijklmnop"}
	noNames := []string{"", "A", "_a", "1", "a b", "a\n", "abcdefghijklmnopq", "let", "min", "global", "é", "a\xff", "a\"", " a", "a#", strings.Repeat("a", 70000)}
	for _, s := range names {
		exprIs(t, true, name(s, 0))
		exprIs(t, true, text(s, 0))
	}
	for _, s := range noNames {
		exprIs(t, false, name(s, 0))
	}
	for c := range 256 {
		b := string([]byte{byte(c)})
		for _, s := range []string{b, "a" + b, b + "a", b + " " + b, strings.Repeat("a", 39) + b, b + strings.Repeat("a", 39)} {
			exprIs(t, c >= 32 && c <= 126 && c != '"', text(s, 0))
		}
	}
	for n := range 60 {
		exprIs(t, n <= 40, text(strings.Repeat("x", n), 0))
		exprIs(t, n <= 40, text(strings.Repeat(" ", n), 0))
	}
	// A '"' within is wrong, also where what stands behind it reads well.
	for _, s := range []string{"\"", "\"\"", "\" \"", "a\" #", "\"#", "a\"#\"", "\" \"a", "a\";\"b", "\"let\"", strings.Repeat("x", 4000), strings.Repeat("x", 1<<20), "\n", "é", "\ufffd"} {
		exprIs(t, false, text(s, 0))
	}
	for _, s := range []string{"let", "#", "# a", ";", "..", "07", "A"} {
		exprIs(t, true, text(s, 0))
	}
	for kind := api.ExprNum; kind <= api.ExprMax; kind++ {
		if kind != api.ExprName && kind != api.ExprText {
			exprIs(t, true, api.Expr{Kind: kind, Kids: some(kidsOf(kind))})
			exprIs(t, false, api.Expr{Kind: kind, Text: "a", Kids: some(kidsOf(kind))})
		}
	}
}

func TestRightKids(t *testing.T) {
	least := []int{api.ExprNum: 0, 0, 0, 1, 2, 2, 2, 1, 1}
	most := []int{api.ExprNum: 0, 0, 0, 1, 2, 2, 2, 8, 8}
	for kind := -1; kind <= 12; kind++ {
		for n := range 12 {
			e := api.Expr{Kind: kind, Kids: some(n)}
			if kind == api.ExprName {
				e.Text = "a"
			}
			exprIs(t, kind >= 1 && kind <= 9 && n >= least[kind] && n <= most[kind], e)
		}
	}
	for _, kind := range []int{math.MinInt, math.MaxInt, 1 << 32, 1<<32 + api.ExprNum} {
		exprIs(t, false, api.Expr{Kind: kind})
	}
	exprIs(t, false, api.Expr{})
	exprIs(t, false, of(api.ExprMin, 0, slices.Repeat([]api.Expr{num(1, 0)}, 70000)...))
}

// At may be anything.
func TestAnyPlaceIsRight(t *testing.T) {
	for _, at := range []int{0, -1, 5000, math.MinInt, math.MaxInt} {
		isRight(t, true,
			named(api.ItemLet, at, "a", of(api.ExprAdd, at, num(1, at), of(api.ExprMin, -at, name("a", at), text("x", at)))),
			named(api.ItemMode, at, "fit"), item(api.ItemLeast, 3, of(api.ExprNeg, at, num(0, 7))))
	}
}

// chain is an expression with n others within one another; by a kind, with its Kids in that place.
func chain(n, kind, kids, place int) api.Expr {
	e := num(1, 0)
	for range n {
		l := some(kids)
		l[place] = e
		e = of(kind, 0, l...)
	}
	return e
}

func TestDepths(t *testing.T) {
	for kind := api.ExprNeg; kind <= api.ExprMax; kind++ {
		for place := range kidsOf(kind) {
			for _, n := range []int{1, 2, 30, 31, 32, 33, 64, 500} {
				e := chain(n, kind, kidsOf(kind), place)
				if d := syntax.Depth(e); d != n+1 {
					t.Errorf("P7.2: Depth of kind %d, %d within: %d", kind, n, d)
				}
				isRight(t, n+1 <= 32, item(api.ItemLeast, 0, e))
				isRight(t, n+1 <= 32, item(api.ItemClip, 0, num(1, 0), e))
				isRight(t, n+1 <= 32, named(api.ItemMode, 0, "fit"), named(api.ItemLet, 0, "a", e))
			}
		}
	}
	// Of any expression, whatever its kind.
	for kind := -1; kind <= 11; kind++ {
		for n := range 12 {
			want := 2
			if n == 0 {
				want = 1
			}
			e := api.Expr{Kind: kind, Num: 3, Text: "x", At: 4, Kids: some(n)}
			if d := syntax.Depth(e); d != want {
				t.Errorf("P7.2: Depth of kind %d with %d Kids: %d", kind, n, d)
			}
			if n > 0 {
				e.Kids[n-1].Kids = []api.Expr{{Kids: []api.Expr{}}, {}}
				if d := syntax.Depth(e); d != 3 {
					t.Errorf("P7.2: Depth of kind %d with Kids of its Kids: %d", kind, d)
				}
			}
		}
	}
	if d := syntax.Depth(api.Expr{Kids: []api.Expr{}}); d != 1 {
		t.Errorf("R4: Depth of one with an empty list: %d", d)
	}
	if d := syntax.Depth(of(api.ExprMin, 0, chain(5, api.ExprNeg, 1, 0), chain(9, api.ExprMax, 3, 1), num(1, 0), chain(7, api.ExprAdd, 2, 1))); d != 11 {
		t.Errorf("P7.2: Depth is one more than the greatest: %d", d)
	}
}

// As deep as the document's bound goes.
func TestTheDeepestTrees(t *testing.T) {
	e := chain(1<<16-4, api.ExprNeg, 1, 0)
	if d := syntax.Depth(e); d != 1<<16-3 {
		t.Errorf("P7.2: Depth: %d", d)
	}
	a := tree(item(api.ItemLeast, 0, e))
	b := tree(item(api.ItemLeast, 1, chain(1<<16-4, api.ExprNeg, 1, 0)))
	if syntax.Right(a) || !syntax.Same(a, b) || syntax.Same(a, tree(item(api.ItemLeast, 0, chain(1<<16-5, api.ExprNeg, 1, 0)))) {
		t.Error("P7.2: trees of a great depth are told wrongly")
	}
	wide := tree(slices.Repeat([]api.Item{item(99, 0, some(50)...)}, 5000)...)
	if syntax.Right(wide) || !syntax.Same(wide, wide) {
		t.Error("P7.2: trees of many items are told wrongly")
	}
}

// copied is a tree of its own that is the same.
func copied(t api.Tree) api.Tree {
	items := slices.Clone(t.Items)
	for n := range items {
		items[n].Args = copiedAll(items[n].Args)
	}
	return api.Tree{Items: items}
}

func copiedAll(l []api.Expr) []api.Expr {
	l = slices.Clone(l)
	for n := range l {
		l[n].Kids = copiedAll(l[n].Kids)
	}
	return l
}

// oddTree has a bit of all, right or not.
func oddTree() api.Tree {
	return tree(
		named(api.ItemLet, 0, "a", of(api.ExprAdd, 4, num(1, 2), of(api.ExprMin, 5, name("a", 6), text("x", 7)))),
		named(api.ItemMode, 9, "fit"),
		named(-4, 9, "none such", of(77, 3, num(-9, 3)), api.Expr{Kind: api.ExprNum, Num: 3, Text: "y", Kids: some(2)}),
		api.Item{})
}

// isSame holds two trees to whether they are the same, from both sides.
func isSame(t *testing.T, want bool, a, b api.Tree) {
	t.Helper()
	if syntax.Same(a, b) != want || syntax.Same(b, a) != want {
		t.Errorf("P7.2: Same(%v, %v): %t, %t", a, b, syntax.Same(a, b), syntax.Same(b, a))
	}
	if !syntax.Same(a, a) || !syntax.Same(b, b) {
		t.Errorf("P7.2: %v or %v is not the same as itself", a, b)
	}
}

func TestSame(t *testing.T) {
	a := oddTree()
	isSame(t, true, a, copied(a))
	isSame(t, true, api.Tree{}, api.Tree{Items: []api.Item{}})
	isSame(t, false, api.Tree{}, tree(api.Item{}))
	isSame(t, false, a, tree(a.Items[:3]...))
	isSame(t, false, a, tree(append(copied(a).Items, api.Item{})...))
	isSame(t, false, a, tree(a.Items[1], a.Items[0], a.Items[2], a.Items[3]))
	isSame(t, true, tree(api.Item{Args: []api.Expr{}}), tree(api.Item{}))
	isSame(t, true, tree(item(10, 0, api.Expr{Kids: []api.Expr{}})), tree(item(10, 0, api.Expr{})))
	// Each field of each item.
	for n := range a.Items {
		for what, change := range map[string]func(i *api.Item){
			"Kind": func(i *api.Item) { i.Kind++ },
			"Name": func(i *api.Item) { i.Name += "b" },
			"more": func(i *api.Item) { i.Args = append(i.Args, num(0, 0)) },
			"zero": func(i *api.Item) { i.Args = append(i.Args, api.Expr{}) },
			"At":   func(i *api.Item) { i.At += 5 },
		} {
			b := copied(a)
			change(&b.Items[n])
			isSame(t, what == "At", a, b)
		}
	}
	// Each field of each expression, however deep.
	all := 0
	for n := range a.Items {
		eachExpr(a.Items[n].Args, func(*api.Expr) { all++ })
	}
	for k := range all {
		for what, change := range map[string]func(e *api.Expr){
			"Kind": func(e *api.Expr) { e.Kind++ },
			"Num":  func(e *api.Expr) { e.Num++ },
			"Text": func(e *api.Expr) { e.Text += "b" },
			"more": func(e *api.Expr) { e.Kids = append(e.Kids, api.Expr{}) },
			"less": func(e *api.Expr) { e.Kids = append([]api.Expr{num(5, 5)}, e.Kids[:len(e.Kids)/2]...) },
			"At":   func(e *api.Expr) { e.At -= 1000 },
		} {
			b, at := copied(a), 0
			for n := range b.Items {
				eachExpr(b.Items[n].Args, func(e *api.Expr) {
					if at == k {
						at++
						change(e)
						return
					}
					at++
				})
			}
			isSame(t, what == "At", a, b)
		}
	}
}

// Trees that are looked at are neither changed, nor their spare room.
func TestTreesStayAsTheyAre(t *testing.T) {
	a := oddTree()
	for n := range a.Items {
		a.Items[n].Args = append(a.Items[n].Args, num(6, 6))[:len(a.Items[n].Args)]
	}
	roomy := append(slices.Clone(a.Items), named(5, 5, "spare"))
	a.Items = roomy[:len(a.Items)]
	kept, spare := copied(a), roomy[len(a.Items)]
	for range 2 {
		if syntax.Right(a) || !syntax.Same(a, kept) || syntax.Depth(a.Items[0].Args[0]) != 3 {
			t.Error("R6: another answer")
		}
	}
	if !equal(a, kept) || spare.Name != roomy[len(a.Items)].Name || roomy[len(a.Items)].Kind != 5 {
		t.Error("R5: a tree that was looked at has changed")
	}
	for n := range a.Items {
		if l := a.Items[n].Args; !equalExpr(l[:len(l)+1][len(l)], num(6, 6)) {
			t.Error("R5: the spare room of a list has changed")
		}
	}
}

// What Parse takes is right, and is not if a thing within is changed to what no source has.
func TestParsedTreesAreRight(t *testing.T) {
	w := newWriter(3)
	for range 300 {
		s, _ := lay(w.source(4, 3), w.gap)
		got, f := syntax.Parse(s)
		if f.Code != api.OK || len(got.Items) == 0 {
			continue
		}
		if !syntax.Right(got) {
			t.Errorf("P7.3: what Parse(%s) takes is not right", brief(s))
		}
		for n := range got.Items {
			eachExpr(got.Items[n].Args, func(e *api.Expr) {
				was := *e
				e.Num -= 1 << 60
				if syntax.Right(got) {
					t.Errorf("P7.2: right with Num %d: %v", e.Num, got)
				}
				*e = was
				e.Kids = append(slices.Clone(e.Kids), make([]api.Expr, 9)...)
				if syntax.Right(got) {
					t.Errorf("P7.2: right with %d Kids: %v", len(e.Kids), got)
				}
				*e = was
			})
		}
		if !syntax.Right(got) {
			t.Errorf("P7.2: put back, it is not right: %v", got)
		}
	}
}
