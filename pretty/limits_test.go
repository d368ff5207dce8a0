package pretty_test

import (
	"math"
	"slices"
	"strings"
	"testing"

	"helix/api"
	"helix/pretty"
)

// some is n expressions that are right.
func some(n int) []api.Expr {
	l := make([]api.Expr, n)
	for k := range l {
		l[k] = num(k)
	}
	return l
}

// kidsOf is how many Kids a kind of expression has, or may have.
func kidsOf(kind int) int {
	return []int{api.ExprNeg: 1, api.ExprAdd: 2, api.ExprSub: 2, api.ExprMul: 2, api.ExprMin: 3, api.ExprMax: 3}[kind]
}

// chain is an expression with n others within one another, by a kind, with its Kids in that place.
func chain(n, kind, kids, place int) api.Expr {
	e := num(1)
	for range n {
		l := some(kids)
		l[place] = e
		e = of(kind, l...)
	}
	return e
}

// wide is an expression whose text has just n bytes, 6 or more: min of others such, and of numbers at last.
func wide(n int) api.Expr {
	// min(..) has 5 bytes around its Kids, and 2 between two of them.
	switch left := n - 5; {
	case left <= 17:
		return of(api.ExprMin, digits(left))
	case left <= 17+2+17:
		half := (left - 2) / 2
		return of(api.ExprMin, digits(left-2-half), digits(half))
	default:
		kids := 2
		for kids < 8 && (left-2*kids)/(kids+1) >= 40 {
			kids++
		}
		var l []api.Expr
		for k := range kids {
			rest := kids - k
			part := (left - 2*(rest-1)) / rest
			l = append(l, wide(part))
			left -= part + 2
		}
		return of(api.ExprMin, l...)
	}
}

// digits is a number of n digits, from 1 to 17.
func digits(n int) api.Expr {
	v := 1
	for range n - 1 {
		v *= 10
	}
	return num(v)
}

func TestTheLongestTexts(t *testing.T) {
	for n := 6; n <= 4100; n++ {
		if n > 60 && n < 3970 && n%89 != 0 {
			continue
		}
		e := wide(n)
		if s := plain(e); len(s) != n {
			t.Fatalf("the test's own expression has %d bytes, not %d", len(s), n)
		}
		if n <= 4000 {
			tells(t, plain(e), e)
		} else if s, no := pretty.Expr(e); s != "" || no != api.ErrLong {
			t.Errorf("P8.1: Expr of %d bytes: %s, error %d", n, brief(s), no)
		}
		for _, i := range []api.Item{
			item(api.ItemLeast, e), named(api.ItemLet, "abcdefghijklmnop", e), item(api.ItemBand, e, num(1)),
			item(api.ItemBand, num(1), e), item(api.ItemClip, num(1), e), item(api.ItemAlphabet, of(api.ExprNeg, of(api.ExprAdd, e, name("a")))),
		} {
			holdLength(t, i)
			holdLength(t, i, named(api.ItemMode, "fit"))
			holdLength(t, named(api.ItemMode, "extend"), item(api.ItemMatch, text("")), i)
		}
	}
}

// holdLength holds a right tree to its text, or to ErrLong if that is longer than may be.
func holdLength(t *testing.T, items ...api.Item) {
	t.Helper()
	if s := plainTree(tree(items...)); len(s) <= 4000 {
		prints(t, s, items...)
	} else {
		refuses(t, api.ErrLong, items...)
	}
}

// Each kind of word may be the one that is too long, whatever it is.
func TestEachEndOfALongText(t *testing.T) {
	x := strings.Repeat("x", 40)
	ends := []api.Expr{
		num(1), num(1 << 56), name("a"), name("abcdefghijklmnop"), text(""), text(x), of(api.ExprNeg, num(1)),
		of(api.ExprAdd, name("a"), name("b")), of(api.ExprSub, num(1), of(api.ExprSub, num(2), text(x))),
		of(api.ExprMul, of(api.ExprAdd, num(1), num(2)), name("a")), of(api.ExprNeg, of(api.ExprMul, text(x), num(1))),
		of(api.ExprMin, some(8)...), of(api.ExprMax, text(x)),
	}
	for _, e := range ends {
		s := plain(e)
		for n := 3990 - len(s); n <= 4010; n++ {
			// The two are parted by ", " within min( and ).
			both := of(api.ExprMin, wide(n-len(s)-7), e)
			if len(plain(both)) != n {
				t.Fatalf("the test's own expression has %d bytes, not %d", len(plain(both)), n)
			}
			if got, no := pretty.Expr(both); n <= 4000 && (no != api.OK || got != plain(both)) || n > 4000 && (no != api.ErrLong || got != "") {
				t.Errorf("P8.1: Expr of %d bytes: %s, error %d", n, brief(got), no)
			}
			holdLength(t, item(api.ItemPair, wide(n-len(s)-9), e))
			holdLength(t, item(api.ItemLeast, wide(n-len(s)-30)), named(api.ItemLet, "abcdefghijklmnop", e))
			holdLength(t, item(api.ItemLeast, wide(n-30)), named(api.ItemMode, "global"))
		}
	}
}

// What is right and far longer than may be, by depth, by width, by its items.
func TestFarTooLong(t *testing.T) {
	e := name("abcdefghijklmnop")
	for range 7 {
		e = of(api.ExprMax, slices.Repeat([]api.Expr{e}, 8)...)
	}
	if s, no := pretty.Expr(e); s != "" || no != api.ErrLong {
		t.Errorf("P8.1: Expr far too long: %s, error %d", brief(s), no)
	}
	refuses(t, api.ErrLong, item(api.ItemLeast, e))
	refuses(t, api.ErrLong, item(api.ItemLeast, num(1)), item(api.ItemGap, e, e), item(api.ItemLeast, num(1)))
	sums := num(1)
	for range 15 {
		sums = of(api.ExprAdd, sums, sums)
	}
	refusesExpr(t, api.ErrLong, sums)
	refuses(t, api.ErrLong, slices.Repeat([]api.Item{item(api.ItemPair, text(strings.Repeat("x", 40)), text(strings.Repeat("y", 40)))}, 100)...)
}

func TestItemsTheMost(t *testing.T) {
	for _, i := range []api.Item{item(api.ItemLeast, num(1)), named(api.ItemMode, "fit"), named(api.ItemLet, "a", num(1)), item(api.ItemBand, num(1), num(2))} {
		for n := range 130 {
			l := slices.Repeat([]api.Item{i}, n)
			if n <= 100 {
				prints(t, strings.Repeat(plainItem(i), n), l...)
			} else {
				refuses(t, api.ErrTree, l...)
			}
		}
	}
}

func TestKidsTheMost(t *testing.T) {
	for _, kind := range []int{api.ExprMin, api.ExprMax} {
		refusesExpr(t, api.ErrTree, of(kind))
		refusesExpr(t, api.ErrTree, api.Expr{Kind: kind, Kids: []api.Expr{}})
		for n := 1; n <= 20; n++ {
			e := of(kind, some(n)...)
			if n <= 8 {
				tells(t, plain(e), e)
				tells(t, "-"+plain(e), of(api.ExprNeg, e))
			} else {
				refusesExpr(t, api.ErrTree, e)
				refusesExpr(t, api.ErrTree, of(api.ExprNeg, e))
			}
		}
	}
	tells(t, "min(0, 1, 2, 3, 4, 5, 6, 7)", of(api.ExprMin, some(8)...))
	tells(t, "max(0, 1, 2, 3, 4, 5, 6, 7)", of(api.ExprMax, some(8)...))
}

func TestTheDeepest(t *testing.T) {
	tells(t, strings.Repeat("-", 31)+"1", chain(31, api.ExprNeg, 1, 0))
	tells(t, strings.Repeat("max(", 31)+"1"+strings.Repeat(")", 31), chain(31, api.ExprMax, 1, 0))
	tells(t, strings.Repeat("0 - (", 30)+"0 - 1"+strings.Repeat(")", 30), chain(31, api.ExprSub, 2, 1))
	tells(t, "1"+strings.Repeat(" - 1", 31), chain(31, api.ExprSub, 2, 0))
	for kind := api.ExprNeg; kind <= api.ExprMax; kind++ {
		for place := range kidsOf(kind) {
			for _, n := range []int{1, 2, 30, 31} {
				e := chain(n, kind, kidsOf(kind), place)
				tells(t, plain(e), e)
			}
			for _, n := range []int{32, 33, 64, 500, 60000} {
				refusesExpr(t, api.ErrTree, chain(n, kind, kidsOf(kind), place))
			}
		}
	}
}

// wrongHeads are expressions that no right tree has, each by one thing.
func wrongHeads() []api.Expr {
	l := []api.Expr{{}, {Kind: 10}, {Kind: -1}, {Kind: math.MaxInt}, {Kind: math.MinInt}, {Kind: 1<<32 + api.ExprNum}}
	for _, n := range []int{-1, 1<<56 + 1, math.MaxInt, math.MinInt} {
		l = append(l, num(n))
	}
	for _, s := range []string{"", "A", "_a", "1", "a b", "a\n", "abcdefghijklmnopq", "é", "a\xff", "a\"", " a", "a#", strings.Repeat("a", 70000)} {
		l = append(l, name(s))
	}
	for _, s := range strings.Fields("let alphabet match mismatch pair gap mode band clip least min max global fit local extend") {
		l = append(l, name(s))
	}
	for _, s := range []string{"\"", "a\" #", "\"#\"", "\n", "\t", "\x1f", "\x7f", "\x80", "é", "\x00", strings.Repeat("x", 41), strings.Repeat("x", 5000)} {
		l = append(l, text(s))
	}
	for kind := api.ExprNum; kind <= api.ExprMax; kind++ {
		right := api.Expr{Kind: kind, Kids: some(kidsOf(kind))}
		if kind == api.ExprName || kind == api.ExprText {
			right.Text = "a"
		} else {
			e := right
			e.Text = "a"
			l = append(l, e)
		}
		if kind != api.ExprNum {
			e := right
			e.Num = 1
			l = append(l, e)
			e.Num = -1
			l = append(l, e)
		}
		for n := range 12 {
			if n == kidsOf(kind) || n > 0 && n <= 8 && (kind == api.ExprMin || kind == api.ExprMax) {
				continue
			}
			e := right
			e.Kids = some(n)
			l = append(l, e)
		}
	}
	return l
}

func TestWrongExpressions(t *testing.T) {
	one := num(1)
	for _, e := range wrongHeads() {
		refusesExpr(t, api.ErrTree, e)
		refusesExpr(t, api.ErrTree, of(api.ExprNeg, e))
		for _, kind := range []int{api.ExprAdd, api.ExprSub, api.ExprMul, api.ExprMin, api.ExprMax} {
			refusesExpr(t, api.ErrTree, of(kind, e, one))
			refusesExpr(t, api.ErrTree, of(kind, one, e))
		}
		refusesExpr(t, api.ErrTree, of(api.ExprMax, append(some(7), of(api.ExprAdd, of(api.ExprNeg, e), one))...))
	}
}

func TestWrongItems(t *testing.T) {
	args := []int{1: 1, 1, 1, 1, 2, 2, 0, 2, 2, 1}
	names := []string{"", "a", "abcdefghijklmnop", "abcdefghijklmnopq", "A", "_", "1", "a b", "let", "min", "mode", "global", "fit", "local", "extend", "Global", "fits", strings.Repeat("a", 70000)}
	for kind := -2; kind <= 13; kind++ {
		for n := range 5 {
			for _, s := range names {
				want := kind >= 1 && kind <= 10 && n == args[kind]
				switch kind {
				case api.ItemLet:
					want = want && slices.Contains([]string{"a", "abcdefghijklmnop", "fits"}, s)
				case api.ItemMode:
					want = want && slices.Contains([]string{"global", "fit", "local", "extend"}, s)
				default:
					want = want && s == ""
				}
				i := named(kind, s, some(n)...)
				if want {
					prints(t, plainItem(i), i)
				} else {
					refuses(t, api.ErrTree, i)
					refuses(t, api.ErrTree, item(api.ItemLeast, num(1)), i)
					refuses(t, api.ErrTree, i, item(api.ItemLeast, num(1)))
				}
			}
		}
	}
	for _, kind := range []int{math.MinInt, math.MaxInt, 1 << 32, 1<<32 + api.ItemLeast} {
		refuses(t, api.ErrTree, item(kind, some(1)...))
	}
}

// A tree that is not right and whose text would be too long: ErrTree stands ahead, wherever what is wrong stands.
func TestWrongAndTooLong(t *testing.T) {
	long := wide(4500)
	if s, no := pretty.Expr(long); s != "" || no != api.ErrLong {
		t.Fatalf("P8.1: Expr of 4500 bytes: %s, error %d", brief(s), no)
	}
	for _, e := range wrongHeads() {
		for _, both := range []api.Expr{
			of(api.ExprMin, long, e), of(api.ExprMin, e, long), of(api.ExprMul, long, e), of(api.ExprNeg, of(api.ExprSub, e, long)),
		} {
			if s, no := pretty.Expr(both); s != "" || no != api.ErrTree {
				t.Errorf("P8.1: Expr of what is wrong and too long: %s, error %d", brief(s), no)
			}
		}
		refuses(t, api.ErrTree, item(api.ItemLeast, long), item(api.ItemLeast, e))
		refuses(t, api.ErrTree, item(api.ItemLeast, e), item(api.ItemLeast, long))
		refuses(t, api.ErrTree, item(api.ItemGap, long, e))
	}
	refuses(t, api.ErrTree, item(api.ItemLeast, long), item(11, num(1)))
	refuses(t, api.ErrTree, item(api.ItemLeast, long), named(api.ItemMode, "far"))
	refuses(t, api.ErrTree, slices.Repeat([]api.Item{item(api.ItemLeast, wide(100))}, 101)...)
	refuses(t, api.ErrLong, slices.Repeat([]api.Item{item(api.ItemLeast, wide(100))}, 100)...)
	refuses(t, api.ErrTree, item(api.ItemLeast, of(api.ExprMin, long, chain(31, api.ExprNeg, 1, 0))))
	refuses(t, api.ErrLong, item(api.ItemLeast, of(api.ExprMin, long, chain(30, api.ExprNeg, 1, 0))))
}
