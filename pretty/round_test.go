package pretty_test

import (
	"math"
	"math/rand/v2"
	"slices"
	"strings"
	"testing"
	"unsafe"

	"helix/api"
	"helix/lex"
	"helix/pretty"
	"helix/syntax"
)

// maker makes right trees, and sources, by numbers that are the same each time.
type maker struct{ *rand.Rand }

func newMaker(seed uint64) maker { return maker{rand.New(rand.NewPCG(seed, 8))} }

func (m maker) oneOf(l ...string) string { return l[m.IntN(len(l))] }

func (m maker) name() string { return m.oneOf("a", "b_2", "lets", "minimum", "abcdefghijklmnop") }

func (m maker) text() string {
	return m.oneOf("", "ACGT", "let", "# x", ";", " ", "- 1", strings.Repeat("~", 40))
}

func (m maker) num() int { return []int{0, 1, 7, 23, 1 << 20, 1<<56 - 1, 1 << 56}[m.IntN(7)] }

func (m maker) leaf() api.Expr {
	switch m.IntN(4) {
	case 0:
		return name(m.name())
	case 1:
		return text(m.text())
	}
	return num(m.num())
}

// expr is a right one, at most deep more than one deep.
func (m maker) expr(deep int) api.Expr {
	if deep == 0 || m.IntN(6) == 0 {
		return m.leaf()
	}
	kind := api.ExprNeg + m.IntN(6)
	kids := kidsOf(kind)
	if kind == api.ExprMin || kind == api.ExprMax {
		kids = 1 + m.IntN(8)
		deep = min(deep, 3)
	}
	var l []api.Expr
	for range kids {
		l = append(l, m.expr(deep-1))
	}
	return of(kind, l...)
}

func (m maker) item(deep int) api.Item {
	switch kind := 1 + m.IntN(10); kind {
	case api.ItemLet:
		return named(kind, m.name(), m.expr(deep))
	case api.ItemMode:
		return named(kind, m.oneOf("global", "fit", "local", "extend"))
	case api.ItemPair, api.ItemGap, api.ItemBand, api.ItemClip:
		return item(kind, m.expr(deep), m.expr(deep))
	default:
		return item(kind, m.expr(deep))
	}
}

func (m maker) tree(items, deep int) api.Tree {
	var t api.Tree
	for range m.IntN(items + 1) {
		t.Items = append(t.Items, m.item(deep))
	}
	return t
}

// placed is a tree with any places.
func (m maker) placed(t api.Tree) api.Tree {
	t = copied(t)
	for n := range t.Items {
		t.Items[n].At = m.place()
		eachExpr(t.Items[n].Args, func(e *api.Expr) { e.At = m.place() })
	}
	return t
}

func (m maker) place() int {
	return []int{0, -1, 3, 4001, math.MaxInt, math.MinInt}[m.IntN(6)]
}

func eachExpr(l []api.Expr, do func(*api.Expr)) {
	for n := range l {
		do(&l[n])
		eachExpr(l[n].Kids, do)
	}
}

// copied is a tree of its own that is the same.
func copied(t api.Tree) api.Tree {
	items := slices.Clone(t.Items)
	for n := range items {
		items[n].Args = copiedAll(items[n].Args)
	}
	return api.Tree{Items: items}
}

func copiedAll(l []api.Expr) []api.Expr {
	l = slices.Clone(l)
	for n := range l {
		l[n].Kids = copiedAll(l[n].Kids)
	}
	return l
}

// equal tells whether two trees are the same, their places too.
func equal(a, b api.Tree) bool {
	return slices.EqualFunc(a.Items, b.Items, func(i, j api.Item) bool {
		return i.Kind == j.Kind && i.Name == j.Name && i.At == j.At && slices.EqualFunc(i.Args, j.Args, equalExpr)
	})
}

func equalExpr(a, b api.Expr) bool {
	return a.Kind == b.Kind && a.Num == b.Num && a.Text == b.Text && a.At == b.At && slices.EqualFunc(a.Kids, b.Kids, equalExpr)
}

// Trees of many shapes: printed by the chapter's table, and read back as they were.
func TestTreesAreReadBack(t *testing.T) {
	m := newMaker(1)
	short, long := 0, 0
	for n := range 6000 {
		want := m.tree(1+n%12, n%7)
		if n%3 == 0 {
			want = m.placed(want)
		}
		kept := copied(want)
		s, e := pretty.Print(want)
		form := plainTree(want)
		if !equal(want, kept) {
			t.Fatalf("R5: Print(%s) has changed its tree", seen(kept))
		}
		if len(form) > 4000 {
			long++
			if s != "" || e != api.ErrLong {
				t.Fatalf("P8.1: Print of %d bytes: %s, error %d", len(form), brief(s), e)
			}
			continue
		}
		short++
		if s != form || e != api.OK {
			t.Fatalf("P8.1: Print(%s): %s, error %d; want %s", seen(want), brief(s), e, brief(form))
		}
		again(t, s, want)
	}
	if short < 3000 || long < 50 {
		t.Errorf("%d trees were printed, %d too long", short, long)
	}
}

// again holds a printed text to being read as a tree, and printed as itself.
func again(t *testing.T, s string, want api.Tree) {
	t.Helper()
	got, f := syntax.Parse(s)
	if f != (api.Fault{}) || !syntax.Same(got, want) {
		t.Fatalf("P8.2: Parse(%s): error %d at %d, or another tree", brief(s), f.Code, f.At)
	}
	if twice, e := pretty.Print(got); e != api.OK || twice != s {
		t.Fatalf("P8.2: printed again: %s, error %d; want %s", brief(twice), e, brief(s))
	}
}

// loose writes an expression as some source may have it: with needless brackets here and there, and any blanks and remarks.
func (m maker) loose(e api.Expr) string {
	kids := make([]string, len(e.Kids))
	for n, k := range e.Kids {
		kids[n] = m.loose(k)
		if bracketed(e.Kind, n, k.Kind) || m.IntN(5) == 0 {
			kids[n] = "(" + kids[n] + m.gap() + ")"
		}
	}
	s := ""
	switch e.Kind {
	case api.ExprNeg:
		s = "-" + kids[0]
	case api.ExprAdd, api.ExprSub, api.ExprMul:
		sign := []string{api.ExprAdd: "+", api.ExprSub: "-", api.ExprMul: "*"}[e.Kind]
		s = kids[0] + m.gap() + sign + m.gap() + kids[1]
	case api.ExprMin, api.ExprMax:
		s = []string{api.ExprMin: "min", api.ExprMax: "max"}[e.Kind] + m.gap() + "(" + strings.Join(kids, m.gap()+","+m.gap()) + ")"
	default:
		s = plain(e)
	}
	return strings.Repeat("(", m.IntN(8)/6) + m.gap() + s
}

func (m maker) gap() string {
	return m.oneOf("", "", " ", "\n", "\t ", " # a, 07 \"\n", "#\n")
}

// shut sets brackets behind that loose has left open.
func shut(s string) string {
	tokens, _, e := lex.Scan(s)
	if e != api.OK {
		return s
	}
	open := 0
	for _, k := range tokens {
		if k.Kind == api.TokSign && k.Text == "(" {
			open++
		}
		if k.Kind == api.TokSign && k.Text == ")" {
			open--
		}
	}
	return s + strings.Repeat(")", open)
}

func (m maker) looseItem(i api.Item) string {
	head := []string{api.ItemLet: "let", "alphabet", "match", "mismatch", "pair", "gap", "mode", "band", "clip", "least"}[i.Kind] + " "
	sign := ","
	switch i.Kind {
	case api.ItemLet:
		head += i.Name + m.gap() + "="
	case api.ItemMode:
		head += i.Name
	case api.ItemBand:
		sign = ".."
	}
	var args []string
	for _, e := range i.Args {
		args = append(args, shut(m.loose(e)))
	}
	return m.gap() + head + strings.Join(args, sign) + m.gap() + ";"
}

// Sources of many shapes: what is printed of them is read as their tree, and printed as that text again.
func TestSourcesAreReadBack(t *testing.T) {
	m := newMaker(2)
	read, more := 0, 0
	for n := range 6000 {
		var b strings.Builder
		for range m.IntN(8) {
			b.WriteString(m.looseItem(m.item(n % 5)))
		}
		source := b.String()
		if n%4 == 3 && len(source) > 0 {
			at := m.IntN(len(source))
			source = source[:at] + m.oneOf("", "-", "(", ")", "a", ";", " 1 ", "*") + source[at+1:]
		}
		want, f := syntax.Parse(source)
		if f.Code != api.OK {
			continue
		}
		read++
		s, e := pretty.Print(want)
		form := plainTree(want)
		if len(form) > 4000 {
			if s != "" || e != api.ErrLong {
				t.Fatalf("P8.1: Print of %d bytes: %s, error %d", len(form), brief(s), e)
			}
			continue
		}
		if s != form || e != api.OK {
			t.Fatalf("P8.1: Print of what %s is read as: %s, error %d", brief(source), brief(s), e)
		}
		if s != source {
			more++
		}
		again(t, s, want)
	}
	if read < 2000 || more < 1500 {
		t.Errorf("only %d sources were read, %d of them of another form", read, more)
	}
}

// What a source says may be longer in its one form than it was; then, and only then, nothing is printed.
func TestShortSourcesOfLongForms(t *testing.T) {
	for items := 1; items <= 100; items++ {
		for _, sum := range []string{"1+1+1", "-1*(2-3)", "max(1,2,3,4)", "a*a*a*a*a", "(((1)))"} {
			s := strings.Repeat("gap "+sum+","+sum+";", items)
			if len(s) > 4000 {
				continue
			}
			want, f := syntax.Parse(s)
			if f.Code != api.OK {
				t.Fatalf("Parse(%s): %v", brief(s), f)
			}
			holdLength(t, want.Items...)
		}
	}
	s, e := pretty.Print(tree(slices.Repeat([]api.Item{item(api.ItemLeast, wide(32))}, 100)...))
	if e != api.OK || len(s) != 4000 {
		t.Errorf("P8.1: 100 lines of 40 bytes: %d bytes, error %d", len(s), e)
	}
	again(t, s, tree(slices.Repeat([]api.Item{item(api.ItemLeast, wide(32))}, 100)...))
}

// A text's lines and blanks are of the one form, whatever its tree.
func TestTheFormOfLines(t *testing.T) {
	m := newMaker(3)
	for range 2000 {
		want := m.tree(6, 4)
		s, e := pretty.Print(want)
		if e != api.OK {
			continue
		}
		if n := strings.Count(s, "\n"); n != len(want.Items) || n > 0 && !strings.HasSuffix(s, ";\n") {
			t.Fatalf("P8.1: %d items in %d lines: %s", len(want.Items), n, brief(s))
		}
		for n, line := range strings.SplitAfter(s, "\n")[:len(want.Items)] {
			alone, e := pretty.Print(tree(want.Items[n]))
			if e != api.OK || alone != line {
				t.Fatalf("P8.1: the line %q, alone: %q, error %d", line, alone, e)
			}
			for _, e := range want.Items[n].Args {
				if part, no := pretty.Expr(e); no != api.OK || !strings.Contains(line, part) {
					t.Fatalf("P8.1: the line %q, and its expression %q, error %d", line, part, no)
				}
			}
		}
	}
}

// What is handed in is neither changed, nor its spare room; what is answered is the same each time, and new memory.
func TestTreesStayAsTheyAre(t *testing.T) {
	spare := named(5, "spare", num(6))
	kids := append(make([]api.Expr, 0, 9), name("abcdefgh"), text("ijklmnop"), num(3))
	kids = append(kids, num(77))[:3]
	items := append(make([]api.Item, 0, 9), named(api.ItemLet, "name_a", of(api.ExprMin, kids...)), named(api.ItemMode, "global"))
	items[0].Args[0].Kids = kids
	items = append(items, spare)[:2]
	given := api.Tree{Items: items}
	wrong := copied(given)
	wrong.Items[1].Name = "nowhere"
	for _, x := range []api.Tree{given, wrong} {
		kept := copied(x)
		first, e := pretty.Print(x)
		for range 3 {
			if s, f := pretty.Print(x); s != first || f != e {
				t.Errorf("R6: another answer: %q, error %d", s, f)
			}
			if _, f := pretty.Expr(x.Items[0].Args[0]); f != api.OK {
				t.Errorf("P8.1: error %d", f)
			}
		}
		if !equal(x, kept) {
			t.Errorf("R5: a tree that was printed has changed: %v", x)
		}
	}
	if l := items[:3]; !equal(tree(l[2]), tree(spare)) {
		t.Error("R5: the spare room of the items has changed")
	}
	if l := kids[:4]; !equalExpr(l[3], num(77)) {
		t.Error("R5: the spare room of the Kids has changed")
	}
}

// An answer shares no memory with the names and texts that it was made of, also where it is just one of them.
func TestAnswersAreNewMemory(t *testing.T) {
	s := string([]byte("abcdefghijklmnop"))
	got, e := pretty.Expr(name(s))
	if e != api.OK || got != s || unsafe.StringData(got) == unsafe.StringData(s) {
		t.Errorf("R5: Expr(%q) is %q, error %d, or shares its memory", s, got, e)
	}
	a, _ := pretty.Expr(name(s))
	b, _ := pretty.Expr(name(s))
	if unsafe.StringData(a) == unsafe.StringData(b) {
		t.Error("R5: two answers share their memory")
	}
}

// Several may print at once: nothing is kept.
func TestManyAtOnce(t *testing.T) {
	done := make(chan string)
	m := newMaker(4)
	var want []string
	for range 8 {
		x := m.tree(5, 3)
		s, _ := pretty.Print(x)
		want = append(want, s)
		go func() {
			for range 200 {
				if again, _ := pretty.Print(x); again != s {
					s = "another answer"
				}
			}
			done <- s
		}()
	}
	var got []string
	for range want {
		got = append(got, <-done)
	}
	slices.Sort(got)
	slices.Sort(want)
	if !slices.Equal(got, want) {
		t.Error("R6: printed at once, trees have other texts")
	}
}
