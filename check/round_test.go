package check_test

import (
	"fmt"
	"math"
	"math/rand/v2"
	"slices"
	"strconv"
	"strings"
	"testing"

	"helix/api"
	"helix/check"
	"helix/syntax"
)

// maker makes trees and schemes of many shapes, by numbers that are the same each time.
type maker struct {
	*rand.Rand
	// lets are the names that a tree has given so far.
	lets []string
}

func newMaker(seed uint64) *maker { return &maker{Rand: rand.New(rand.NewPCG(seed, 9))} }

func (m *maker) oneOf(l ...string) string { return l[m.IntN(len(l))] }

func (m *maker) num() int {
	return []int{0, 1, 2, 3, 7, 20, 1 << 28, 1 << 20, 1 << 55, 1<<56 - 1, 1 << 56}[min(m.IntN(11), m.IntN(11), m.IntN(11))]
}

// name is mostly one that has been given.
func (m *maker) name() string {
	if len(m.lets) > 0 && m.IntN(30) > 0 {
		return m.oneOf(m.lets...)
	}
	return m.oneOf("a", "b", "c", "d_1", "abcdefghijklmnop")
}

// newName is mostly one that has not been given.
func (m *maker) newName() string {
	s := m.oneOf("a", "b", "c", "d_1", "abcdefghijklmnop")
	for slices.Contains(m.lets, s) && m.IntN(10) > 0 {
		s = "n" + strconv.Itoa(m.IntN(1000))
	}
	return s
}

func (m *maker) text() string {
	return m.oneOf("", "A", "AC", "CA", "AA", "CC", "GA", "ACG", "ACGT", "ac", "aC", "QWERTZUIOPASDFGHJKLY", "let", "A1", "AC ")
}

// expr is a right one, whose types mostly fit.
func (m *maker) expr(deep int) api.Expr {
	if deep == 0 || m.IntN(3) == 0 {
		switch n := m.IntN(100); {
		case n == 0:
			return text(m.text())
		case n < 20 && len(m.lets) > 0 || n == 1:
			return name(m.name())
		}
		return num(m.num())
	}
	kind := api.ExprNeg + m.IntN(6)
	kids := 2
	switch kind {
	case api.ExprNeg:
		kids = 1
	case api.ExprMin, api.ExprMax:
		kids = 1 + m.IntN(8)
	}
	var l []api.Expr
	for range kids {
		l = append(l, m.expr(deep-1))
	}
	return of(kind, l...)
}

// cost is an expression that is mostly not below 0.
func (m *maker) cost() api.Expr {
	if m.IntN(3) == 0 {
		return of(api.ExprMax, num(0), m.expr(2))
	}
	return num(m.num())
}

// letters is what mostly is a text.
func (m *maker) letters(s string) api.Expr {
	switch m.IntN(40) {
	case 0:
		return m.expr(1)
	case 1, 2:
		return text(m.text())
	case 3:
		return name("t")
	}
	return text(s)
}

func (m *maker) item(kind int) api.Item {
	switch kind {
	case api.ItemLet:
		if m.IntN(8) == 0 {
			return named(kind, "t", text(m.text()))
		}
		e := m.expr(2)
		s := m.newName()
		m.lets = append(m.lets, s)
		return named(kind, s, e)
	case api.ItemAlphabet:
		return item(kind, m.letters(m.oneOf("AC", "AC", "ACG", "CA", "CAGTUVWXYZBDEFHIJKLM")))
	case api.ItemPair:
		return item(kind, m.letters(m.oneOf("AA", "AC", "CA", "CC", "ca", "aC")), m.expr(2))
	case api.ItemMode:
		return named(kind, m.oneOf("global", "fit", "local", "extend"))
	case api.ItemGap, api.ItemClip:
		return item(kind, m.cost(), m.cost())
	case api.ItemBand:
		return item(kind, of(api.ExprNeg, num(m.num())), m.expr(1))
	}
	return item(kind, m.expr(2))
}

// tree has mostly what a scheme needs, and all else in any order, sometimes twice, sometimes out of its order.
func (m *maker) tree() api.Tree {
	var l []api.Item
	m.lets = nil
	add := func(kind, often int) {
		for range often {
			l = append(l, m.item(kind))
		}
	}
	add(api.ItemLet, m.IntN(4))
	add(api.ItemAlphabet, 1)
	add(api.ItemMatch, 1)
	add(api.ItemMismatch, 1)
	add(api.ItemMode, 1)
	add(api.ItemPair, m.IntN(3))
	add(api.ItemGap, m.IntN(4))
	for _, kind := range []int{api.ItemBand, api.ItemClip, api.ItemLeast, api.ItemLet} {
		add(kind, m.IntN(2))
	}
	switch m.IntN(6) {
	case 0:
		l = slices.Delete(l, 0, m.IntN(len(l)))
	case 1:
		m.Shuffle(len(l), func(a, b int) { l[a], l[b] = l[b], l[a] })
	case 2:
		n := m.IntN(len(l))
		l = slices.Delete(l, n, n+1)
	case 3:
		l = slices.Insert(l, m.IntN(len(l)), m.item(1+m.IntN(10)))
	}
	return marked(api.Tree{Items: l})
}

// elsewhere is a tree with other places, of any sizes.
func (m *maker) elsewhere(t api.Tree) api.Tree {
	var exprs func(l []api.Expr) []api.Expr
	exprs = func(l []api.Expr) []api.Expr {
		l = slices.Clone(l)
		for n := range l {
			l[n].At, l[n].Kids = int(m.Uint64()), exprs(l[n].Kids)
		}
		return l
	}
	items := slices.Clone(t.Items)
	for n := range items {
		items[n].At, items[n].Args = int(m.Uint64()), exprs(items[n].Args)
	}
	return api.Tree{Items: items}
}

func TestManyTrees(t *testing.T) {
	m := newMaker(1)
	told := map[api.Errno]int{}
	for range 15000 {
		tree := m.tree()
		if !syntax.Right(tree) {
			t.Fatalf("the test's own tree is not right: %s", seen(tree))
		}
		s, f := holdTree(t, tree)
		told[f.Code]++
		other := m.elsewhere(tree)
		s2, f2 := holdTree(t, other)
		if !same(s, s2) || f.Code != f2.Code {
			t.Fatalf("P9.5: At counts: %v, %s; %v, %s", f, seen(s), f2, seen(s2))
		}
		if f.Code == api.OK {
			isRight(t, s)
		}
		if t.Failed() {
			return
		}
	}
	for _, code := range []api.Errno{api.OK, api.ErrAlphabet, api.ErrTwice, api.ErrNone, api.ErrType, api.ErrRange, api.ErrMissing} {
		if told[code] < 100 {
			t.Errorf("the test's own trees: error %d but %d times of %v", code, told[code], told)
		}
	}
}

// All rows of some items, one behind the other, each of which may be wrong by those ahead of it.
func TestAllRowsOfItems(t *testing.T) {
	src := `let a = 1; let a = -2; let b = a; let b = "AC"; let c = b + a; alphabet "AC"; alphabet b; alphabet a; alphabet "A"; match 1; match b; mismatch a; mismatch -a;
		pair "AC", 1; pair "CA", a; pair "AA", b; pair b, 2; pair "CC", c; pair "AG", 2; pair a, a; gap 1, a; gap a - 2, 1; gap b, 1; mode fit; mode global;
		band a .. 2; band 1 .. a; band 1 .. b; clip a, 3; clip -a, b; least a; least "x" + a;`
	items := parse(t, src).Items
	told := map[api.Errno]int{}
	var goOn func(l []api.Item, more int)
	goOn = func(l []api.Item, more int) {
		_, f := holdTree(t, api.Tree{Items: l})
		told[f.Code]++
		// What is wrong already is told whatever comes behind it.
		if more == 0 || t.Failed() || f.Code != api.OK && f.Code != api.ErrMissing {
			return
		}
		for _, i := range items {
			i.At += 1000 * len(l)
			goOn(append(slices.Clone(l), i), more-1)
		}
	}
	goOn(nil, 3)
	goOn([]api.Item{named(api.ItemMode, "fit"), item(api.ItemAlphabet, text("AC")), item(api.ItemMatch, num(1))}, 3)
	if told[api.OK] < 50 || told[api.ErrMissing] < 5000 {
		t.Errorf("the test's own rows: %v", told)
	}
}

// Sources of many shapes: what Parse reads of them is held to the plain reading; blanks and remarks don't count.
func TestManySources(t *testing.T) {
	m := newMaker(2)
	right := 0
	for range 20000 {
		l := []string{
			m.oneOf(`let a = 1 + 2 * 3`, `let a = 4`, `let a = -(2 - 3)`), m.oneOf(`let b = -a`, `let b = -9`, `let b = min(a) - a`), m.oneOf(`let c = max(a, b, 4)`, `let c = a`),
			`let t = "AC"`, m.oneOf(`alphabet "ACGT"`, `alphabet t`, `alphabet "CA"`), m.oneOf(`match c`, `match 2`), m.oneOf(`mismatch -c`, `mismatch b`),
			m.oneOf(`mode fit`, `mode local`, `mode extend`, `mode global`),
		}
		for range m.IntN(6) {
			l = append(l, m.oneOf(`pair "AC", b - 1`, `pair t, 4`, `pair "CA", min(1)`, `pair "Cc", a`, `gap a, c`, `gap 4, 1`, `gap 10, 0`, `band -c .. c`, `band b .. a`, `clip a, 0`, `clip 5, c`, `least a * c`, `least 0`))
		}
		if n := m.IntN(len(l)); m.IntN(3) == 0 {
			l[n], l[0] = l[0], l[n]
		} else if m.IntN(3) == 0 {
			l = slices.Delete(l, n, n+1)
		}
		tight, wide := strings.Join(l, ";")+";", strings.ReplaceAll(strings.Join(l, " ;\n# x; 07\n")+" ;", " ", " \t")
		s, f := holdTree(t, parse(t, tight))
		s2, f2 := check.Check(parse(t, wide))
		if !same(s, s2) || f.Code != f2.Code {
			t.Fatalf("P9.5: %q: %v, %s; %v, %s", tight, f, seen(s), f2, seen(s2))
		}
		if f.Code == api.OK {
			right++
			isRight(t, s)
		}
	}
	if right < 2000 {
		t.Errorf("the test's own sources: %d are right", right)
	}
}

// def is a definition for a place, mostly right.
func (m *maker) def(place int) api.Def {
	d := api.Def{Op: 1 + m.IntN(7)}
	if place == 0 {
		d.Op = 1
	}
	switch d.Op {
	case 1:
		d.Num = []int{0, 1, -1, 5, -7, 1 << 28, -1 << 28, 1 << 29, 1 << 56, -1 << 56, 1 << 57, -1 << 57, 1<<57 - 1, 3}[m.IntN(14)]
	case 2:
		d.A = m.IntN(place)
	default:
		d.A, d.B = m.IntN(place), m.IntN(place)
	}
	if m.IntN(60) == 0 {
		*m.field(&d) = []int{-1, 0, 1, place, place - 1, 8, math.MaxInt, math.MinInt, 1<<57 + 1}[m.IntN(9)]
	}
	return d
}

func (m *maker) field(d *api.Def) *int { return []*int{&d.Op, &d.Num, &d.A, &d.B}[m.IntN(4)] }

func TestManyValues(t *testing.T) {
	m := newMaker(3)
	told := map[api.Errno]int{}
	for range 60000 {
		var l []api.Def
		for n := range m.IntN(14) {
			l = append(l, m.def(n))
		}
		want, e := plainValues(l)
		told[e]++
		got, no := check.Values(l...)
		if no != e || fmt.Sprint(got) != fmt.Sprint(want) && len(got)+len(want) > 0 {
			t.Fatalf("P9.2: Values(%v): %v, error %d; want %v, error %d", l, got, no, want, e)
		}
	}
	if told[api.OK] < 1000 || told[api.ErrArg] < 1000 || told[api.ErrRange] < 1000 {
		t.Errorf("the test's own definitions: %v", told)
	}
}

func (m *maker) scheme() api.Scheme {
	s := api.Scheme{Letters: m.oneOf("AC", "AC", "ACG", "CA"), Mode: 1 + m.IntN(4), Banded: m.IntN(2) == 0}
	small := []int{0, 1, 2, 3, 5, 1 << 56, -1, -5, -1 << 56, 4}
	for range 6 + m.IntN(6) {
		s.Defs = append(s.Defs, api.Def{Op: api.DefNum, Num: small[m.IntN(len(small))]})
	}
	place := func() int { return m.IntN(len(s.Defs)) }
	cost := func() int {
		for range 40 {
			if p := place(); s.Defs[p].Num >= 0 {
				return p
			}
		}
		return place()
	}
	for range len(s.Letters) * len(s.Letters) {
		s.Subst = append(s.Subst, place())
	}
	for range m.IntN(5) {
		s.Pieces = append(s.Pieces, api.Piece{Open: cost(), Extend: cost()})
	}
	s.Front, s.Back, s.Least = cost(), cost(), place()
	if s.Banded {
		s.Lo, s.Hi = place(), place()
	}
	return s
}

// other changes one number, or one list, of a scheme.
func (m *maker) other(s *api.Scheme) {
	n := []int{-1, 0, 1, len(s.Defs), len(s.Defs) - 1, 5, 4, math.MaxInt, math.MinInt, 1<<56 + 1, -1<<56 - 1, 1 << 57}[m.IntN(12)]
	switch m.IntN(11) {
	case 0:
		s.Subst[m.IntN(len(s.Subst))] = n
	case 1:
		s.Defs[m.IntN(len(s.Defs))].Num = n
	case 2:
		*m.field(&s.Defs[m.IntN(len(s.Defs))]) = n
	case 3:
		s.Mode = n
	case 4:
		s.Lo = n
	case 5:
		s.Hi = n
	case 6:
		*[]*int{&s.Front, &s.Back, &s.Least}[m.IntN(3)] = n
	case 7:
		s.Pieces = append(s.Pieces, api.Piece{Open: m.IntN(4), Extend: max(0, n)})
	case 8:
		s.Banded = !s.Banded
	case 9:
		s.Letters = m.text()
	case 10:
		s.Subst = append(s.Subst, 0)
	}
}

func TestManySchemes(t *testing.T) {
	m := newMaker(4)
	told := map[bool]int{}
	for range 60000 {
		s := m.scheme()
		for range m.IntN(3) {
			m.other(&s)
		}
		want := plainRight(s)
		told[want]++
		if got := check.Right(s); got != want {
			t.Fatalf("P9.3: Right(%s): %v", seen(s), got)
		}
		got, e := check.Numbers(s)
		if want && (e != api.OK || !same(got, plainNumbers(s))) {
			t.Fatalf("P9.4: Numbers(%s): %s, error %d; want %s", seen(s), seen(got), e, seen(plainNumbers(s)))
		}
		if !want && (e != api.ErrScheme || !same(got, api.Model{})) {
			t.Fatalf("P9.4: Numbers(%s): %s, error %d; want ErrScheme", seen(s), seen(got), e)
		}
	}
	if told[true] < 5000 || told[false] < 5000 {
		t.Errorf("the test's own schemes: %v", told)
	}
}

// roomy gives each list of a tree spare room that is filled, and tells the lists with it.
func roomy(t api.Tree) (api.Tree, *[][]api.Expr, []api.Item) {
	rooms := &[][]api.Expr{}
	var exprs func(l []api.Expr) []api.Expr
	exprs = func(l []api.Expr) []api.Expr {
		room := append(slices.Clone(l), api.Expr{Kind: 77, Num: 77}, api.Expr{Kind: 78})
		for n := range l {
			room[n].Kids = exprs(room[n].Kids)
		}
		*rooms = append(*rooms, room)
		return room[:len(l)]
	}
	items := append(slices.Clone(t.Items), api.Item{Kind: 77, Name: "x"})
	for n := range t.Items {
		items[n].Args = exprs(items[n].Args)
	}
	return api.Tree{Items: items[:len(t.Items)]}, rooms, items
}

// What is handed in is not changed, nor its spare room (R5).
func TestHandedInStays(t *testing.T) {
	m := newMaker(5)
	for range 3000 {
		tree, rooms, items := roomy(m.tree())
		before := fmt.Sprintf("%v%v", *rooms, items)
		s, f := check.Check(tree)
		if after := fmt.Sprintf("%v%v", *rooms, items); after != before {
			t.Fatalf("R5: Check has changed its tree: %s", seen(tree))
		}
		if f.Code != api.OK {
			continue
		}
		s.Defs = append(s.Defs, api.Def{Op: 77})[:len(s.Defs)]
		s.Subst = append(s.Subst, 77)[:len(s.Subst)]
		s.Pieces = append(s.Pieces, api.Piece{Open: 77})[:len(s.Pieces)]
		all := func() string {
			return fmt.Sprint(s, s.Defs[:len(s.Defs)+1], s.Subst[:len(s.Subst)+1], s.Pieces[:len(s.Pieces)+1])
		}
		before = all()
		check.Right(s)
		check.Numbers(s)
		check.Values(s.Defs...)
		if all() != before {
			t.Fatalf("R5: a scheme has been changed: %s", before)
		}
	}
}

// What is answered is new memory, and hangs on nothing that has been (R5, R6).
func TestAnswersAreNew(t *testing.T) {
	m := newMaker(6)
	for range 3000 {
		tree := m.tree()
		s, f := check.Check(tree)
		if f.Code != api.OK {
			continue
		}
		model, _ := check.Numbers(s)
		values, _ := check.Values(s.Defs...)
		told := fmt.Sprint(s, model, values)
		spoil(s, model, values)
		s2, _ := check.Check(tree)
		model2, _ := check.Numbers(s2)
		values2, _ := check.Values(s2.Defs...)
		if again := fmt.Sprint(s2, model2, values2); again != told {
			t.Fatalf("R5: %s, then %s", told, again)
		}
		// What Numbers and Values have told stays, whatever becomes of the scheme.
		before := fmt.Sprint(model2, values2)
		spoil(s2, api.Model{}, nil)
		if fmt.Sprint(model2, values2) != before {
			t.Fatalf("R5: an answer has changed: %s", before)
		}
	}
}

// spoil fills all lists, and their spare room.
func spoil(s api.Scheme, m api.Model, values []int) {
	for _, l := range [][]int{s.Subst, m.Subst, values} {
		for n := range l[:cap(l)] {
			l[:cap(l)][n] = 99
		}
	}
	for n := range s.Defs[:cap(s.Defs)] {
		s.Defs[:cap(s.Defs)][n] = api.Def{Op: 99}
	}
	for n := range s.Pieces[:cap(s.Pieces)] {
		s.Pieces[:cap(s.Pieces)][n] = api.Piece{Open: 99}
	}
	for n := range m.Gaps[:cap(m.Gaps)] {
		m.Gaps[:cap(m.Gaps)][n] = api.Gap{Open: 99}
	}
}

// A nil list and an empty one are the same (R4).
func TestEmptyLists(t *testing.T) {
	empty := func(l []api.Item) []api.Item {
		l = slices.Clone(l)
		for n := range l {
			if len(l[n].Args) == 0 {
				l[n].Args = []api.Expr{}
			}
			l[n].Args = slices.Clone(l[n].Args)
			for k := range l[n].Args {
				if len(l[n].Args[k].Kids) == 0 {
					l[n].Args[k].Kids = []api.Expr{}
				}
			}
		}
		return l
	}
	items := parse(t, base+` gap 1, 2; least -3;`).Items
	a, f := check.Check(api.Tree{Items: items})
	b, g := check.Check(api.Tree{Items: empty(items)})
	if f != (api.Fault{}) || g != f || !same(a, b) {
		t.Errorf("R4: %v, %s; %v, %s", f, seen(a), g, seen(b))
	}
	s := baseOf()
	s.Pieces = []api.Piece{}
	if !check.Right(s) {
		t.Errorf("R4: Right(%s): false", seen(s))
	}
	if v, e := check.Values([]api.Def{}...); e != api.OK || len(v) != 0 {
		t.Errorf("R4: Values of none: %v, error %d", v, e)
	}
}
