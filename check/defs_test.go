package check_test

import (
	"math"
	"slices"
	"strconv"
	"strings"
	"testing"

	"helix/api"
	"helix/check"
)

func def(op, a, b int) api.Def { return api.Def{Op: op, A: a, B: b} }

// Which definitions each expression lays down, and where the place of its own is.
func TestDefinitions(t *testing.T) {
	n := func(n int) api.Def { return api.Def{Op: api.DefNum, Num: n} }
	add, sub, mul, least, most := api.DefAdd, api.DefSub, api.DefMul, api.DefMin, api.DefMax
	for src, want := range map[string]struct {
		defs  []api.Def
		place int
	}{
		`7`:                    {[]api.Def{n(7)}, 2},
		`0`:                    {[]api.Def{n(0)}, 2},
		`-7`:                   {[]api.Def{n(7), def(api.DefNeg, 2, 0)}, 3},
		`--7`:                  {[]api.Def{n(7), def(api.DefNeg, 2, 0), def(api.DefNeg, 3, 0)}, 4},
		`3 + 4`:                {[]api.Def{n(3), n(4), def(add, 2, 3)}, 4},
		`3 - 4`:                {[]api.Def{n(3), n(4), def(sub, 2, 3)}, 4},
		`3 * 4`:                {[]api.Def{n(3), n(4), def(mul, 2, 3)}, 4},
		`3 - 4 - 5`:            {[]api.Def{n(3), n(4), def(sub, 2, 3), n(5), def(sub, 4, 5)}, 6},
		`3 - (4 - 5)`:          {[]api.Def{n(3), n(4), n(5), def(sub, 3, 4), def(sub, 2, 5)}, 6},
		`min(3)`:               {[]api.Def{n(3)}, 2},
		`max(3)`:               {[]api.Def{n(3)}, 2},
		`max(min(max(-3)))`:    {[]api.Def{n(3), def(api.DefNeg, 2, 0)}, 3},
		`min(3, 4)`:            {[]api.Def{n(3), n(4), def(least, 2, 3)}, 4},
		`max(3, 4)`:            {[]api.Def{n(3), n(4), def(most, 2, 3)}, 4},
		`min(3, 4, 5)`:         {[]api.Def{n(3), n(4), n(5), def(least, 2, 3), def(least, 5, 4)}, 6},
		`max(3, 4, 5)`:         {[]api.Def{n(3), n(4), n(5), def(most, 2, 3), def(most, 5, 4)}, 6},
		`max(3, 3 + 4, 5)`:     {[]api.Def{n(3), n(3), n(4), def(add, 3, 4), n(5), def(most, 2, 5), def(most, 7, 6)}, 8},
		`min(3, max(4, 5), 6)`: {[]api.Def{n(3), n(4), n(5), def(most, 3, 4), n(6), def(least, 2, 5), def(least, 7, 6)}, 8},
		`one`:                  {nil, 0},
		`min(one)`:             {nil, 0},
		`-one`:                 {[]api.Def{def(api.DefNeg, 0, 0)}, 2},
		`one - two`:            {[]api.Def{def(sub, 0, 1)}, 2},
		`two - one`:            {[]api.Def{def(sub, 1, 0)}, 2},
		`one * one`:            {[]api.Def{def(mul, 0, 0)}, 2},
		`min(one, two, one)`:   {[]api.Def{def(least, 0, 1), def(least, 2, 0)}, 3},
		`max(one, 5, two)`:     {[]api.Def{n(5), def(most, 0, 2), def(most, 3, 1)}, 4},
		`max(1, 2, 3, 4, 5, 6, 7, 8)`: {[]api.Def{
			n(1), n(2), n(3), n(4), n(5), n(6), n(7), n(8), def(most, 2, 3), def(most, 10, 4), def(most, 11, 5), def(most, 12, 6),
			def(most, 13, 7), def(most, 14, 8), def(most, 15, 9)}, 16},
	} {
		const head = `let one = 1; let two = 2; alphabet "AC"; match one; mismatch two; mode global; `
		s := baseOf(want.defs...)
		means(t, head+`let a = `+src+`;`, s)
		s.Subst[1] = want.place
		means(t, head+`pair "AC", `+src+`;`, s)
		s.Subst[1] = 1
		s.Banded, s.Lo, s.Hi = true, want.place, want.place
		means(t, head+`let a = `+src+`; band a .. min(a);`, s)
		s = baseOf(want.defs...)
		s.Least = want.place
		s.Defs = s.Defs[:len(s.Defs)-1]
		means(t, head+`least `+src+`;`, s)
	}
}

// laying is an expression that lays down just n definitions, of all kinds.
func laying(n int) api.Expr {
	switch n {
	case 1:
		return num(1)
	case 2:
		return of(api.ExprNeg, num(1))
	}
	kinds := []int{api.ExprMin, api.ExprMax, api.ExprMin, api.ExprMul}
	kind := kinds[n%len(kinds)]
	if kind != api.ExprMul && n >= 15 && n%3 == 0 {
		// Eight Kids and seven of their own.
		var kids []api.Expr
		for k := range 8 {
			kids = append(kids, laying((n-7)*(k+1)/8-(n-7)*k/8))
		}
		return of(kind, kids...)
	}
	return of(kind, laying((n-1)/2), laying(n-1-(n-1)/2))
}

// marked gives each item and expression a place of its own, from 1000 on.
func marked(t api.Tree) api.Tree {
	at := 1000
	var expr func(l []api.Expr) []api.Expr
	expr = func(l []api.Expr) []api.Expr {
		l = slices.Clone(l)
		for n := range l {
			at++
			l[n].At = at
			l[n].Kids = expr(l[n].Kids)
		}
		return l
	}
	items := slices.Clone(t.Items)
	for n := range items {
		at++
		items[n].At = at
		items[n].Args = expr(items[n].Args)
	}
	return api.Tree{Items: items}
}

// holdTree holds a right tree to the plain reading.
func holdTree(t *testing.T, tree api.Tree) (api.Scheme, api.Fault) {
	t.Helper()
	want, fault := plain(tree)
	got, f := check.Check(tree)
	if f != fault || !same(got, want) {
		t.Errorf("P9.1: Check(%s): %v, %s; want %v, %s", seen(tree), f, seen(got), fault, seen(want))
	}
	return got, f
}

// The items of a scheme, of which all but the alphabet and the mode have definitions, one for each number.
var (
	alphabet = item(api.ItemAlphabet, text("AC"))
	match    = item(api.ItemMatch, num(1))
	mismatch = item(api.ItemMismatch, num(1))
	mode     = named(api.ItemMode, "fit")
	gap      = item(api.ItemGap, num(1), num(1))
	band     = item(api.ItemBand, num(1), num(1))
	clip     = item(api.ItemClip, num(1), num(1))
	least    = item(api.ItemLeast, num(1))
)

// let is one of a that lays down n definitions.
func let(n int) api.Item { return named(api.ItemLet, "a", laying(n)) }

// many holds a tree to have too many definitions, at one of its items.
func many(t *testing.T, last int, items ...api.Item) {
	t.Helper()
	m := marked(tree(items...))
	if _, f := holdTree(t, m); f != (api.Fault{Code: api.ErrMany, At: m.Items[last].At}) {
		t.Errorf("P9.1: %s: %v; want ErrMany at %d", seen(items), f, m.Items[last].At)
	}
}

// full holds a tree to have just as many definitions as may be.
func full(t *testing.T, items ...api.Item) {
	t.Helper()
	s, f := holdTree(t, marked(tree(items...)))
	if f != (api.Fault{}) || len(s.Defs) != 5000 {
		t.Errorf("P9.1: %d definitions, %v; want 5000", len(s.Defs), f)
	}
	isRight(t, s)
}

func TestTheMostDefinitions(t *testing.T) {
	for _, n := range []int{1, 2, 3, 8, 14, 15, 16, 100, 4999, 5000} {
		if r := (&reader{}); r.expr(laying(n)).number == nil || len(r.defs) != n {
			t.Fatalf("the test's own expression lays %d definitions, not %d", len(r.defs), n)
		}
	}
	// By the 0 of clip, of least, of both.
	full(t, alphabet, match, mismatch, mode, let(4996))
	many(t, 4, alphabet, match, mismatch, mode, let(4997))
	many(t, 5, alphabet, match, let(4998), mode, mismatch, named(api.ItemLet, "b", name("a")))
	full(t, clip, alphabet, match, mismatch, mode, let(4995))
	many(t, 5, clip, alphabet, match, mismatch, mode, let(4996))
	full(t, least, alphabet, match, let(4996), mismatch, mode)
	many(t, 5, least, alphabet, match, let(4997), mismatch, mode)
	// By an item, whichever it is, also by its second expression.
	full(t, clip, least, alphabet, match, mismatch, mode, let(4995))
	many(t, 6, clip, least, alphabet, match, mismatch, mode, let(4996))
	for _, i := range []api.Item{match, mismatch, gap, band, clip, least, named(api.ItemLet, "b", num(1))} {
		many(t, 1, let(5000), i, mode)
		many(t, 2, alphabet, let(5000), i)
	}
	for _, i := range []api.Item{gap, band, clip} {
		many(t, 1, let(4999), i, mode)
	}
	many(t, 2, alphabet, let(5000), item(api.ItemPair, text("AC"), num(1)), mode)
	// One item alone may have far too many.
	many(t, 0, let(40000))
}

// Where there is no room for more definitions, and something else is wrong.
func TestTooManyAndElse(t *testing.T) {
	// What is missing behind the last item stands ahead of the 0 of clip and of least.
	m := marked(tree(alphabet, match, mode, let(4999)))
	faultsTree(t, m, api.ErrMissing, m.Items[3].At)
	// A number that may not be stands ahead of there being no room for it.
	m = marked(tree(let(4998), item(api.ItemLeast, of(api.ExprAdd, num(1<<56), num(1)))))
	faultsTree(t, m, api.ErrRange, m.Items[1].Args[0].At)
	// Definitions are laid down as numbers are asked: what is asked behind them does not count, what is asked ahead does.
	m = marked(tree(named(api.ItemLet, "a", of(api.ExprAdd, laying(5001), name("b")))))
	faultsTree(t, m, api.ErrMany, m.Items[0].At)
	m = marked(tree(named(api.ItemLet, "a", of(api.ExprAdd, name("b"), laying(5001)))))
	faultsTree(t, m, api.ErrNone, m.Items[0].Args[0].Kids[0].At)
	many(t, 1, let(5000), item(api.ItemAlphabet, num(1)))
	many(t, 2, alphabet, let(5000), item(api.ItemPair, num(1), num(1)))
	many(t, 1, let(5000), item(api.ItemGap, num(1), text("x")), gap)
	m = marked(tree(let(4999), item(api.ItemGap, num(1), of(api.ExprNeg, text("x")))))
	faultsTree(t, m, api.ErrType, m.Items[1].Args[1].Kids[0].At)
}

func TestNearTheMostDefinitions(t *testing.T) {
	one := num(1)
	items := []api.Item{
		match, clip, gap, band, item(api.ItemPair, text("AC"), one), item(api.ItemPair, one, one), item(api.ItemAlphabet, one), item(api.ItemMatch, of(api.ExprAdd, one, one)),
		item(api.ItemMatch, of(api.ExprMin, one, one, one, one, one, one, one, one)), item(api.ItemMatch, of(api.ExprMin, text("x"), one, one)),
		item(api.ItemMatch, of(api.ExprMax, one, name("q"))), item(api.ItemGap, of(api.ExprNeg, one), one), item(api.ItemGap, text("x"), one),
		item(api.ItemBand, one, of(api.ExprNeg, one)), item(api.ItemMatch, of(api.ExprAdd, num(1<<56), one)), item(api.ItemMatch, name("q")),
		item(api.ItemMatch, of(api.ExprMax, name("a"), name("a"), name("a"))), item(api.ItemMatch, of(api.ExprMin, name("a"))), mode, item(api.ItemAlphabet, text("")),
	}
	for _, n := range []int{4986, 4992, 4997, 4998, 4999, 5000} {
		for _, i := range items {
			holdTree(t, marked(tree(let(n), i, alphabet, mode, mismatch, match)))
			holdTree(t, marked(tree(alphabet, mismatch, let(n), i, mode, clip, least)))
		}
	}
}

func TestWrongTrees(t *testing.T) {
	one := num(1)
	right := parse(t, base).Items
	deep := num(1)
	for range 32 {
		deep = of(api.ExprNeg, deep)
	}
	wrong := []api.Item{
		{}, {Kind: 11}, {Kind: -1}, item(api.ItemLet, one), named(api.ItemLet, "A", one), named(api.ItemLet, "a"), named(api.ItemMatch, "a", one),
		item(api.ItemMatch), item(api.ItemMatch, one, one), item(api.ItemGap, one), item(api.ItemGap, one, one, one), item(api.ItemMode), named(api.ItemMode, "x"),
		named(api.ItemMode, "fit", one), item(api.ItemLeast, num(-1)), item(api.ItemLeast, num(1<<56+1)), item(api.ItemLeast, name("")), item(api.ItemLeast, text("\n")),
		item(api.ItemLeast, of(api.ExprNeg)), item(api.ItemLeast, of(api.ExprMin)), item(api.ItemLeast, of(api.ExprMax, slices.Repeat([]api.Expr{one}, 9)...)),
		item(api.ItemLeast, of(10, one)), item(api.ItemLeast, of(0)), item(api.ItemLeast, deep), item(api.ItemLeast, of(api.ExprAdd, one)),
		item(api.ItemBand, one), item(api.ItemClip), item(api.ItemPair, text("AC")), item(api.ItemAlphabet), item(api.ItemAlphabet, text("AC"), text("AC")),
	}
	for _, i := range wrong {
		i.At = 77
		faultsTree(t, tree(i), api.ErrTree, 0)
		faultsTree(t, tree(append(slices.Clone(right), i)...), api.ErrTree, 0)
		// It stands ahead of all else, wherever it is.
		faultsTree(t, tree(item(api.ItemMatch, name("b")), i), api.ErrTree, 0)
		faultsTree(t, tree(i, item(api.ItemMatch, name("b"))), api.ErrTree, 0)
	}
	for n := range 130 {
		var l []api.Item
		for k := range n {
			l = append(l, named(api.ItemLet, "a"+strconv.Itoa(k), num(k)))
		}
		m := marked(tree(l...))
		if n > 100 {
			faultsTree(t, m, api.ErrTree, 0)
		} else if n > 0 {
			faultsTree(t, m, api.ErrMissing, m.Items[n-1].At)
		}
	}
}

// tellsValues holds definitions to their numbers.
func tellsValues(t *testing.T, want []int, l ...api.Def) {
	t.Helper()
	if got, e := check.Values(l...); e != api.OK || !slices.Equal(got, want) {
		t.Errorf("P9.2: Values(%s): %s, error %d; want %s", seen(l), seen(got), e, seen(want))
	}
}

func refusesValues(t *testing.T, want api.Errno, l ...api.Def) {
	t.Helper()
	if got, e := check.Values(l...); e != want || len(got) != 0 {
		t.Errorf("P9.2: Values(%s): %s, error %d; want error %d", seen(l), seen(got), e, want)
	}
}

func TestValues(t *testing.T) {
	five := api.Def{Op: api.DefNum, Num: 5}
	tellsValues(t, []int{5, -5, 0}, five, def(api.DefNeg, 0, 0), def(api.DefAdd, 0, 1))
	refusesValues(t, api.ErrArg, def(api.DefNeg, 0, 0))
	tellsValues(t, nil)
	three := api.Def{Op: api.DefNum, Num: -3}
	tellsValues(t, []int{5, -3, 2, 8, -8, -15, 25, 9, -3, -3, 5, 5, 3},
		five, three, def(api.DefAdd, 0, 1), def(api.DefSub, 0, 1), def(api.DefSub, 1, 0), def(api.DefMul, 0, 1), def(api.DefMul, 0, 0), def(api.DefMul, 1, 1),
		def(api.DefMin, 0, 1), def(api.DefMin, 1, 0), def(api.DefMax, 0, 1), def(api.DefMax, 1, 0), def(api.DefNeg, 1, 0))
	for _, op := range []int{api.DefMin, api.DefMax} {
		tellsValues(t, []int{5, 5}, five, def(op, 0, 0))
	}
}

func TestValuesWrong(t *testing.T) {
	one := api.Def{Op: api.DefNum, Num: 1}
	for _, op := range []int{0, -1, 8, 9, math.MaxInt, math.MinInt, 1<<32 + 1, 257} {
		refusesValues(t, api.ErrArg, api.Def{Op: op})
		refusesValues(t, api.ErrArg, one, api.Def{Op: op})
		refusesValues(t, api.ErrArg, api.Def{Op: op}, one)
	}
	far := []int{-1, -2, 2, 3, math.MaxInt, math.MinInt, 1 << 32, 5004}
	for _, p := range far {
		for op := api.DefNeg; op <= api.DefMax; op++ {
			refusesValues(t, api.ErrArg, one, one, def(op, p, 0), one)
			refusesValues(t, api.ErrArg, one, one, def(op, 0, p), one)
			refusesValues(t, api.ErrArg, one, one, def(op, p, p), one, one, one)
		}
		refusesValues(t, api.ErrArg, one, one, api.Def{Op: api.DefNum, A: p})
		refusesValues(t, api.ErrArg, one, one, api.Def{Op: api.DefNum, B: p})
		for op := api.DefNeg; op <= api.DefMax; op++ {
			refusesValues(t, api.ErrArg, one, one, api.Def{Op: op, Num: p})
		}
	}
	// What stands ahead, and what an Op has not.
	refusesValues(t, api.ErrArg, one, one, def(api.DefNeg, 0, 1))
	refusesValues(t, api.ErrArg, one, one, def(api.DefNum, 1, 0))
	refusesValues(t, api.ErrArg, one, one, def(api.DefNum, 0, 1))
	for op := api.DefNeg; op <= api.DefMax; op++ {
		refusesValues(t, api.ErrArg, def(op, 0, 0))
		refusesValues(t, api.ErrArg, one, def(op, 1, 0))
		if op > api.DefNeg {
			refusesValues(t, api.ErrArg, one, def(op, 0, 1))
			tellsValues(t, []int{1, 1, []int{api.DefAdd: 2, api.DefSub: 0, api.DefMul: 1, api.DefMin: 1, api.DefMax: 1}[op]}, one, one, def(op, 0, 1))
			tellsValues(t, []int{1, 1, []int{api.DefAdd: 2, api.DefSub: 0, api.DefMul: 1, api.DefMin: 1, api.DefMax: 1}[op]}, one, one, def(op, 1, 0))
		} else {
			tellsValues(t, []int{1, 1, -1}, one, one, def(op, 1, 0))
		}
	}
}

func TestValuesRange(t *testing.T) {
	n := func(n int) api.Def { return api.Def{Op: api.DefNum, Num: n} }
	const most = 1 << 57
	one := n(1)
	for _, v := range []int{most, -most, most - 1, 1 - most} {
		tellsValues(t, []int{v}, n(v))
		tellsValues(t, []int{v, -v}, n(v), def(api.DefNeg, 0, 0))
		tellsValues(t, []int{v, 1, v, v}, n(v), one, def(api.DefMul, 0, 1), def(api.DefMul, 1, 0))
		tellsValues(t, []int{v, -1, -v}, n(v), n(-1), def(api.DefMul, 0, 1))
		tellsValues(t, []int{v, v, v}, n(v), def(api.DefMin, 0, 0), def(api.DefMax, 0, 1))
		tellsValues(t, []int{v, 0, 0}, n(v), n(0), def(api.DefMul, 0, 1))
	}
	for _, v := range []int{most + 1, -most - 1, math.MaxInt, math.MinInt, math.MinInt + 1, 1 << 62, -1 << 62} {
		refusesValues(t, api.ErrRange, n(v))
		refusesValues(t, api.ErrRange, one, n(v), one)
	}
	tellsValues(t, []int{most - 1, 1, most}, n(most-1), one, def(api.DefAdd, 0, 1))
	refusesValues(t, api.ErrRange, n(most), one, def(api.DefAdd, 0, 1))
	tellsValues(t, []int{1 - most, 1, -most}, n(1-most), one, def(api.DefSub, 0, 1))
	refusesValues(t, api.ErrRange, n(-most), one, def(api.DefSub, 0, 1))
	refusesValues(t, api.ErrRange, n(most), def(api.DefAdd, 0, 0))
	refusesValues(t, api.ErrRange, n(-most), def(api.DefAdd, 0, 0))
	refusesValues(t, api.ErrRange, n(most), n(-most), def(api.DefSub, 0, 1))
	refusesValues(t, api.ErrRange, n(-most), n(most), def(api.DefSub, 0, 1))
	for _, two := range [][2]int{
		{most, 2}, {most, most}, {1<<28 + 1, 1 << 29}, {1 << 32, 1 << 32}, {1 << 33, 1 << 31}, {3, most/3 + 1}, {1 << 56, 256}, {1 << 56, 128}, {1<<56 + 1, 512}, {1 << 57, 1<<57 - 1},
	} {
		for _, sign := range [][2]int{{1, 1}, {1, -1}, {-1, 1}, {-1, -1}} {
			refusesValues(t, api.ErrRange, n(sign[0]*two[0]), n(sign[1]*two[1]), def(api.DefMul, 0, 1))
			refusesValues(t, api.ErrRange, n(sign[0]*two[0]), n(sign[1]*two[1]), def(api.DefMul, 1, 0))
		}
	}
	for _, two := range [][2]int{{1 << 28, 1 << 29}, {1 << 56, 2}, {3, most / 3}, {1<<28 - 1, 1 << 29}} {
		a, b := two[0], two[1]
		tellsValues(t, []int{a, b, a * b}, n(a), n(b), def(api.DefMul, 0, 1))
		tellsValues(t, []int{-a, b, -a * b}, n(-a), n(b), def(api.DefMul, 0, 1))
		tellsValues(t, []int{a, -b, -a * b}, n(a), n(-b), def(api.DefMul, 1, 0))
		tellsValues(t, []int{-a, -b, a * b}, n(-a), n(-b), def(api.DefMul, 1, 0))
	}
	// The first that is wrong counts, from the front on; within one, ErrArg.
	refusesValues(t, api.ErrRange, n(most+1), api.Def{})
	refusesValues(t, api.ErrArg, api.Def{}, n(most+1))
	refusesValues(t, api.ErrArg, api.Def{Op: api.DefNum, Num: most + 1, A: 1})
	refusesValues(t, api.ErrArg, n(most), api.Def{Op: api.DefAdd, Num: 1})
	refusesValues(t, api.ErrArg, n(most), api.Def{Op: api.DefNum, Num: math.MinInt, B: -1})
}

func TestValuesTheMost(t *testing.T) {
	one := api.Def{Op: api.DefNum, Num: 1}
	for _, n := range []int{4999, 5000, 5001, 5003, 5004} {
		tellsValues(t, slices.Repeat([]int{1}, n), slices.Repeat([]api.Def{one}, n)...)
	}
	l := []api.Def{one}
	want := []int{1}
	for n := 1; n < 5004; n++ {
		l = append(l, def(api.DefAdd, n-1, 0))
		want = append(want, n+1)
	}
	tellsValues(t, want, l...)
	for _, n := range []int{5005, 5006, 10000, 70000} {
		refusesValues(t, api.ErrLong, slices.Repeat([]api.Def{one}, n)...)
		refusesValues(t, api.ErrLong, slices.Repeat([]api.Def{{}}, n)...)
		refusesValues(t, api.ErrLong, slices.Repeat([]api.Def{{Op: api.DefNum, Num: math.MaxInt}}, n)...)
	}
	refusesValues(t, api.ErrArg, slices.Repeat([]api.Def{{}}, 5004)...)
}

// wrongWays are ways to make a scheme wrong that is right, by one thing each.
func wrongWays() map[string]func(s *api.Scheme) {
	ways := map[string]func(s *api.Scheme){
		"no letters":         func(s *api.Scheme) { s.Letters = "" },
		"one letter":         func(s *api.Scheme) { s.Letters = "A" },
		"like letters":       func(s *api.Scheme) { s.Letters = "AA" },
		"small letters":      func(s *api.Scheme) { s.Letters = "ac" },
		"a letter more":      func(s *api.Scheme) { s.Letters = "ACG" },
		"too many letters":   func(s *api.Scheme) { s.Letters = "ABCDEFGHIJKLMNOPQRSTU" },
		"no Defs":            func(s *api.Scheme) { s.Defs = nil },
		"too many Defs":      func(s *api.Scheme) { s.Defs = append(s.Defs, slices.Repeat(numsOf(1), 5001-len(s.Defs))...) },
		"far too many Defs":  func(s *api.Scheme) { s.Defs = append(s.Defs, slices.Repeat(numsOf(1), 5005-len(s.Defs))...) },
		"a wrong Op":         func(s *api.Scheme) { s.Defs = append(s.Defs, api.Def{}) },
		"a wrong place":      func(s *api.Scheme) { s.Defs = append(s.Defs, def(api.DefNeg, len(s.Defs), 0)) },
		"a number too great": func(s *api.Scheme) { s.Defs = append(s.Defs, numsOf(1<<57+1)...) },
		"Subst too short":    func(s *api.Scheme) { s.Subst = s.Subst[:3] },
		"no Subst":           func(s *api.Scheme) { s.Subst = nil },
		"Subst too long":     func(s *api.Scheme) { s.Subst = append(s.Subst, 0) },
		"Subst far too long": func(s *api.Scheme) { s.Subst = append(s.Subst, s.Subst...) },
		"too many pieces":    func(s *api.Scheme) { s.Pieces = slices.Repeat(s.Pieces[:1], 5) },
		"Mode 0":             func(s *api.Scheme) { s.Mode = 0 },
		"Mode 5":             func(s *api.Scheme) { s.Mode = 5 },
		"Mode -1":            func(s *api.Scheme) { s.Mode = -1 },
		"Mode MaxInt":        func(s *api.Scheme) { s.Mode = math.MaxInt },
		"Lo not banded":      func(s *api.Scheme) { s.Banded, s.Lo, s.Hi = false, 1, 0 },
		"Hi not banded":      func(s *api.Scheme) { s.Banded, s.Lo, s.Hi = false, 0, 1 },
		"below 0 not banded": func(s *api.Scheme) { s.Banded, s.Lo, s.Hi = false, -1, -1 },
		"Lo above Hi":        func(s *api.Scheme) { s.Lo, s.Hi = s.Hi, s.Lo },
	}
	fields := map[string]func(s *api.Scheme) *int{
		"Subst 0": func(s *api.Scheme) *int { return &s.Subst[0] }, "Subst 1": func(s *api.Scheme) *int { return &s.Subst[1] }, "Subst 3": func(s *api.Scheme) *int { return &s.Subst[3] },
		"Open": func(s *api.Scheme) *int { return &s.Pieces[0].Open }, "Extend": func(s *api.Scheme) *int { return &s.Pieces[0].Extend },
		"the last Open": func(s *api.Scheme) *int { return &s.Pieces[1].Open }, "the last Extend": func(s *api.Scheme) *int { return &s.Pieces[1].Extend },
		"Lo": func(s *api.Scheme) *int { return &s.Lo }, "Hi": func(s *api.Scheme) *int { return &s.Hi },
		"Front": func(s *api.Scheme) *int { return &s.Front }, "Back": func(s *api.Scheme) *int { return &s.Back }, "Least": func(s *api.Scheme) *int { return &s.Least },
	}
	for what, field := range fields {
		for _, p := range []int{-1, math.MinInt, math.MaxInt, 1 << 32, -1 << 32} {
			ways[what+" is "+strconv.Itoa(p)] = func(s *api.Scheme) { *field(s) = p }
		}
		ways[what+" is no place by one"] = func(s *api.Scheme) { *field(s) = len(s.Defs) }
		for _, v := range []int{1<<56 + 1, -1<<56 - 1, 1 << 57, -1 << 57} {
			ways[what+" at "+strconv.Itoa(v)] = func(s *api.Scheme) { *field(s) = len(s.Defs); s.Defs = append(s.Defs, numsOf(v)...) }
		}
		if !strings.HasPrefix(what, "Subst") && !slices.Contains([]string{"Lo", "Hi", "Least"}, what) {
			for _, v := range []int{-1, -1 << 56} {
				ways[what+" at "+strconv.Itoa(v)] = func(s *api.Scheme) { *field(s) = len(s.Defs); s.Defs = append(s.Defs, numsOf(v)...) }
			}
		}
	}
	return ways
}

// sample is a right scheme with all that one may have.
func sample() api.Scheme {
	return api.Scheme{
		Letters: "AC", Defs: append(numsOf(1, -2, 3, 4, 5, 6, -7, 8, 9), def(api.DefNeg, 0, 0)), Subst: []int{0, 1, 9, 0},
		Pieces: []api.Piece{{Open: 2, Extend: 3}, {Open: 4, Extend: 5}}, Mode: api.Local, Banded: true, Lo: 6, Hi: 7, Front: 2, Back: 8, Least: 1,
	}
}

// isWrong holds a scheme to be none.
func isWrong(t *testing.T, what string, s api.Scheme) {
	t.Helper()
	if plainRight(s) {
		t.Fatalf("the test's own scheme is right: %s", what)
	}
	if check.Right(s) {
		t.Errorf("P9.3: Right, %s: true", what)
	}
	if m, e := check.Numbers(s); e != api.ErrScheme || !same(m, api.Model{}) {
		t.Errorf("P9.4: Numbers, %s: %s, error %d", what, seen(m), e)
	}
}

func TestRightSchemes(t *testing.T) {
	edges := map[string]func(s *api.Scheme){
		"as it is":   func(*api.Scheme) {},
		"not banded": func(s *api.Scheme) { s.Banded, s.Lo, s.Hi = false, 0, 0 },
		"no pieces":  func(s *api.Scheme) { s.Pieces = nil },
		"four pieces": func(s *api.Scheme) {
			s.Pieces = slices.Repeat(s.Pieces, 2)
		},
		"5000 Defs":       func(s *api.Scheme) { s.Defs = append(s.Defs, slices.Repeat(numsOf(1), 4990)...) },
		"a number of 57":  func(s *api.Scheme) { s.Defs = append(s.Defs, numsOf(1<<57, -1<<57)...) },
		"Lo and Hi alike": func(s *api.Scheme) { s.Lo = s.Hi },
		"one definition": func(s *api.Scheme) {
			*s = api.Scheme{Letters: "AC", Defs: numsOf(0), Subst: []int{0, 0, 0, 0}, Mode: 1}
		},
		"one banded": func(s *api.Scheme) {
			*s = api.Scheme{Letters: "AC", Defs: numsOf(0), Subst: []int{0, 0, 0, 0}, Mode: 4, Banded: true}
		},
		"greatest": func(s *api.Scheme) {
			*s = api.Scheme{
				Letters: "AC", Defs: numsOf(1<<56, -1<<56, 0), Subst: []int{0, 1, 1, 0}, Mode: 2, Banded: true, Lo: 1, Hi: 0,
				Least: 1, Front: 0, Back: 0, Pieces: []api.Piece{{Open: 0, Extend: 0}, {Open: 2, Extend: 2}},
			}
		},
		"greatest not scored": func(s *api.Scheme) {
			*s = api.Scheme{Letters: "AC", Defs: append(numsOf(1<<57, 1<<56), def(api.DefSub, 0, 1)), Subst: []int{1, 2, 2, 1}, Mode: 3, Front: 2, Back: 2, Least: 1}
		},
		"Mode 1": func(s *api.Scheme) { s.Mode = 1 }, "Mode 2": func(s *api.Scheme) { s.Mode = 2 }, "Mode 3": func(s *api.Scheme) { s.Mode = 3 }, "Mode 4": func(s *api.Scheme) { s.Mode = 4 },
		"Least below 0": func(s *api.Scheme) { s.Least = 6 },
		"twenty letters": func(s *api.Scheme) {
			s.Letters = "ABCDEFGHIJKLMNOPQRST"
			s.Subst = slices.Repeat([]int{9}, 400)
		},
	}
	for what, change := range edges {
		s := sample()
		change(&s)
		if !plainRight(s) {
			t.Fatalf("the test's own scheme is wrong: %s", what)
		}
		if !check.Right(s) {
			t.Errorf("P9.3: Right, %s: false", what)
		}
		isRight(t, s)
	}
}

func TestWrongSchemes(t *testing.T) {
	isWrong(t, "nothing", api.Scheme{})
	for what, change := range wrongWays() {
		s := sample()
		change(&s)
		isWrong(t, what, s)
	}
}
