package pretty_test

import (
	"fmt"
	"slices"
	"strconv"
	"strings"
	"testing"

	"helix/api"
	"helix/pretty"
	"helix/syntax"
)

// Trees, made without the packages that are looked at.

func num(n int) api.Expr { return api.Expr{Kind: api.ExprNum, Num: n} }

func name(s string) api.Expr { return api.Expr{Kind: api.ExprName, Text: s} }

func text(s string) api.Expr { return api.Expr{Kind: api.ExprText, Text: s} }

func of(kind int, kids ...api.Expr) api.Expr { return api.Expr{Kind: kind, Kids: kids} }

func item(kind int, args ...api.Expr) api.Item { return api.Item{Kind: kind, Args: args} }

func named(kind int, name string, args ...api.Expr) api.Item {
	return api.Item{Kind: kind, Name: name, Args: args}
}

func tree(items ...api.Item) api.Tree { return api.Tree{Items: items} }

// brief is what is told of a text.
func brief(s string) string {
	if len(s) > 200 {
		return strconv.Quote(s[:100]) + ".." + strconv.Quote(s[len(s)-100:]) + " of " + strconv.Itoa(len(s)) + " bytes"
	}
	return strconv.Quote(s)
}

// seen is what is told of a tree, or of a part of it.
func seen(x any) string { return brief(fmt.Sprint(x)) }

// prints holds a tree to its text; and the text is read as that tree (P8.2).
func prints(t *testing.T, want string, items ...api.Item) {
	t.Helper()
	got, e := pretty.Print(tree(items...))
	if e != api.OK || got != want {
		t.Errorf("P8.1: Print(%s): %s, error %d; want %s", seen(items), brief(got), e, brief(want))
		return
	}
	readBack(t, got, tree(items...))
}

// readBack holds a text to the tree that it is read as.
func readBack(t *testing.T, s string, want api.Tree) {
	t.Helper()
	got, f := syntax.Parse(s)
	if f != (api.Fault{}) || !syntax.Same(got, want) {
		t.Errorf("P8.2: Parse(%s): %s, error %d at %d; want %s", brief(s), seen(got), f.Code, f.At, seen(want))
	}
}

// tells holds an expression to its text, alone and within items of each kind, first and last.
func tells(t *testing.T, want string, e api.Expr) {
	t.Helper()
	if got, no := pretty.Expr(e); no != api.OK || got != want {
		t.Errorf("P8.1: Expr(%s): %s, error %d; want %s", seen(e), brief(got), no, brief(want))
		return
	}
	if len(want) > api.MaxSource/4 {
		return
	}
	prints(t, "least "+want+";\n", item(api.ItemLeast, e))
	prints(t, "let a = "+want+";\n", named(api.ItemLet, "a", e))
	prints(t, "gap "+want+", 1;\n", item(api.ItemGap, e, num(1)))
	prints(t, "band 1 .. "+want+";\n", item(api.ItemBand, num(1), e))
	prints(t, "pair "+want+", "+want+";\nmode fit;\n", item(api.ItemPair, e, e), named(api.ItemMode, "fit"))
}

// refuses holds a tree to its error, and that nothing else is told.
func refuses(t *testing.T, want api.Errno, items ...api.Item) {
	t.Helper()
	if got, e := pretty.Print(tree(items...)); e != want || got != "" {
		t.Errorf("P8.1: Print(%s): %s, error %d; want error %d", seen(items), brief(got), e, want)
	}
}

// refusesExpr holds an expression to its error, alone, and in each place that a tree has for one.
func refusesExpr(t *testing.T, want api.Errno, e api.Expr) {
	t.Helper()
	if got, no := pretty.Expr(e); no != want || got != "" {
		t.Errorf("P8.1: Expr(%s): %s, error %d; want error %d", seen(e), brief(got), no, want)
	}
	one := num(1)
	refuses(t, want, item(api.ItemLeast, e))
	refuses(t, want, named(api.ItemLet, "a", e))
	refuses(t, want, item(api.ItemClip, e, one))
	refuses(t, want, item(api.ItemBand, one, e))
	refuses(t, want, item(api.ItemMatch, one), named(api.ItemMode, "fit"), item(api.ItemMatch, e))
}

func TestExamples(t *testing.T) {
	for s, want := range map[string]string{
		"let a=1;match a*(2+3);": "let a = 1;\nmatch a * (2 + 3);\n",
		"least 1-(2-3)-4;":       "least 1 - (2 - 3) - 4;\n",
		"least -(a*b)*-c;":       "least -(a * b) * -c;\n",
		"band -3..max(1);":       "band -3 .. max(1);\n",
		"":                       "",
	} {
		tree, f := syntax.Parse(s)
		if f != (api.Fault{}) {
			t.Fatalf("Parse(%q): %v", s, f)
		}
		prints(t, want, tree.Items...)
	}
	one := num(1)
	prints(t, "let a = 1;\nmatch a * (2 + 3);\n",
		named(api.ItemLet, "a", one),
		item(api.ItemMatch, of(api.ExprMul, name("a"), of(api.ExprAdd, num(2), num(3)))))
	refuses(t, api.ErrTree, item(11, one))
	refuses(t, api.ErrTree, api.Item{Kind: 11})
	refusesExpr(t, api.ErrTree, name("match"))
	refusesExpr(t, api.ErrTree, num(-1))
}

func TestNoItems(t *testing.T) {
	for _, l := range [][]api.Item{nil, {}, make([]api.Item, 0, 5)} {
		if s, e := pretty.Print(api.Tree{Items: l}); s != "" || e != api.OK {
			t.Errorf("P8.1: Print of no items: %q, error %d", s, e)
		}
	}
}

func TestEachItem(t *testing.T) {
	one, two := num(1), of(api.ExprSub, name("b"), num(2))
	prints(t, "let a = b - 2;\n", named(api.ItemLet, "a", two))
	prints(t, "alphabet b - 2;\n", item(api.ItemAlphabet, two))
	prints(t, "alphabet \"ACGT\";\n", item(api.ItemAlphabet, text("ACGT")))
	prints(t, "match b - 2;\n", item(api.ItemMatch, two))
	prints(t, "mismatch b - 2;\n", item(api.ItemMismatch, two))
	prints(t, "pair 1, b - 2;\n", item(api.ItemPair, one, two))
	prints(t, "pair b - 2, 1;\n", item(api.ItemPair, two, one))
	prints(t, "gap 1, b - 2;\n", item(api.ItemGap, one, two))
	prints(t, "mode global;\n", named(api.ItemMode, "global"))
	prints(t, "mode fit;\n", named(api.ItemMode, "fit"))
	prints(t, "mode local;\n", named(api.ItemMode, "local"))
	prints(t, "mode extend;\n", named(api.ItemMode, "extend"))
	prints(t, "band 1 .. b - 2;\n", item(api.ItemBand, one, two))
	prints(t, "band b - 2 .. 1;\n", item(api.ItemBand, two, one))
	prints(t, "clip 1, b - 2;\n", item(api.ItemClip, one, two))
	prints(t, "least b - 2;\n", item(api.ItemLeast, two))
	// What a tree means is not asked here: any order, and any item twice.
	prints(t, "least 1;\nleast 1;\nmode fit;\nlet a = \"\";\nlet a = a;\nalphabet 1;\nmode fit;\n",
		item(api.ItemLeast, one), item(api.ItemLeast, one), named(api.ItemMode, "fit"), named(api.ItemLet, "a", text("")),
		named(api.ItemLet, "a", name("a")), item(api.ItemAlphabet, one), named(api.ItemMode, "fit"))
}

func TestEachExpression(t *testing.T) {
	a, b, c := name("a"), name("b"), name("c")
	tells(t, "7", num(7))
	tells(t, "a", a)
	tells(t, "\"a b\"", text("a b"))
	tells(t, "-a", of(api.ExprNeg, a))
	tells(t, "-1", of(api.ExprNeg, num(1)))
	tells(t, "-\"x\"", of(api.ExprNeg, text("x")))
	tells(t, "a + b", of(api.ExprAdd, a, b))
	tells(t, "a - b", of(api.ExprSub, a, b))
	tells(t, "a * b", of(api.ExprMul, a, b))
	for _, k := range []int{api.ExprMin, api.ExprMax} {
		word := map[int]string{api.ExprMin: "min", api.ExprMax: "max"}[k]
		tells(t, word+"(a)", of(k, a))
		tells(t, word+"(a, b)", of(k, a, b))
		tells(t, word+"(a, b, c)", of(k, a, b, c))
		tells(t, word+"("+word+"(a), max(b, min(c)))", of(k, of(k, a), of(api.ExprMax, b, of(api.ExprMin, c))))
	}
	// A text is written as it is, whatever it reads like.
	for _, s := range []string{"", " ", "#", "# a", "let", ";", "..", "(1 + 2)", "\\", "\\n", "'", "  a  ", "07", "~", "-"} {
		tells(t, "\""+s+"\"", text(s))
	}
	for c := 32; c <= 126; c++ {
		if c != '"' {
			tells(t, "\""+string(rune(c))+"\"", text(string(rune(c))))
		}
	}
}

func TestTheEdgesOfWords(t *testing.T) {
	tells(t, "0", num(0))
	tells(t, "1", num(1))
	tells(t, "72057594037927935", num(1<<56-1))
	tells(t, "72057594037927936", num(1<<56))
	tells(t, "-72057594037927936", of(api.ExprNeg, num(1<<56)))
	tells(t, "1000000", num(1000000))
	for _, s := range []string{"a", "z", "abcdefghijklmnop", "a_0123456789____", "lets", "minimum", "m", "g", "globa"} {
		tells(t, s, name(s))
		prints(t, "let "+s+" = 1;\n", named(api.ItemLet, s, num(1)))
	}
	for n := 0; n <= 40; n++ {
		s := strings.Repeat("~", n)
		tells(t, "\""+s+"\"", text(s))
	}
}

// bracketed is whether a Kid must stand in brackets, as the chapter says it; the place counts from 0.
func bracketed(outer, place, inner int) bool {
	isSum := inner == api.ExprAdd || inner == api.ExprSub
	switch outer {
	case api.ExprAdd, api.ExprSub:
		return place == 1 && isSum
	case api.ExprMul:
		return isSum || place == 1 && inner == api.ExprMul
	case api.ExprNeg:
		return isSum || inner == api.ExprMul
	}
	return false
}

func TestBrackets(t *testing.T) {
	a, b, c := name("a"), name("b"), name("c")
	for _, x := range []struct {
		inner  int
		kids   []api.Expr
		s      string
		sumR   string // as the right Kid of a sum and of a difference
		mulL   string // as the left Kid of a product
		mulR   string // as the right Kid of a product
		neg    string // as the Kid of a '-'
		inList string // as a Kid of min and of max, and as the left Kid of a sum and of a difference
	}{
		{api.ExprAdd, []api.Expr{a, b}, "a + b", "(a + b)", "(a + b)", "(a + b)", "(a + b)", "a + b"},
		{api.ExprSub, []api.Expr{a, b}, "a - b", "(a - b)", "(a - b)", "(a - b)", "(a - b)", "a - b"},
		{api.ExprMul, []api.Expr{a, b}, "a * b", "a * b", "a * b", "(a * b)", "(a * b)", "a * b"},
		{api.ExprNeg, []api.Expr{a}, "-a", "-a", "-a", "-a", "-a", "-a"},
		{api.ExprMin, []api.Expr{a, b}, "min(a, b)", "min(a, b)", "min(a, b)", "min(a, b)", "min(a, b)", "min(a, b)"},
		{api.ExprMax, []api.Expr{a}, "max(a)", "max(a)", "max(a)", "max(a)", "max(a)", "max(a)"},
	} {
		e := of(x.inner, x.kids...)
		tells(t, x.s, e)
		tells(t, x.inList+" + c", of(api.ExprAdd, e, c))
		tells(t, x.inList+" - c", of(api.ExprSub, e, c))
		tells(t, "c + "+x.sumR, of(api.ExprAdd, c, e))
		tells(t, "c - "+x.sumR, of(api.ExprSub, c, e))
		tells(t, x.mulL+" * c", of(api.ExprMul, e, c))
		tells(t, "c * "+x.mulR, of(api.ExprMul, c, e))
		tells(t, "-"+x.neg, of(api.ExprNeg, e))
		tells(t, x.inList+" + "+x.sumR, of(api.ExprAdd, e, e))
		tells(t, x.inList+" - "+x.sumR, of(api.ExprSub, e, e))
		tells(t, x.mulL+" * "+x.mulR, of(api.ExprMul, e, e))
		for _, w := range []string{"min", "max"} {
			k := map[string]int{"min": api.ExprMin, "max": api.ExprMax}[w]
			tells(t, w+"("+x.inList+")", of(k, e))
			tells(t, w+"("+x.inList+", c)", of(k, e, c))
			tells(t, w+"(c, "+x.inList+", c)", of(k, c, e, c))
			tells(t, w+"(c, c, "+x.inList+")", of(k, c, c, e))
		}
	}
	// What has no Kids never stands in brackets.
	for _, s := range []string{"7", "a", "\"x\""} {
		e := map[string]api.Expr{"7": num(7), "a": a, "\"x\"": text("x")}[s]
		tells(t, s+" + "+s, of(api.ExprAdd, e, e))
		tells(t, s+" - "+s, of(api.ExprSub, e, e))
		tells(t, s+" * "+s, of(api.ExprMul, e, e))
		tells(t, "-"+s, of(api.ExprNeg, e))
		tells(t, "min("+s+")", of(api.ExprMin, e))
	}
}

func TestRows(t *testing.T) {
	a, b, c, d := name("a"), name("b"), name("c"), name("d")
	tells(t, "a + b + c + d", of(api.ExprAdd, of(api.ExprAdd, of(api.ExprAdd, a, b), c), d))
	tells(t, "a + (b + (c + d))", of(api.ExprAdd, a, of(api.ExprAdd, b, of(api.ExprAdd, c, d))))
	tells(t, "a + b - (c + d)", of(api.ExprSub, of(api.ExprAdd, a, b), of(api.ExprAdd, c, d)))
	tells(t, "a * b * (c * d)", of(api.ExprMul, of(api.ExprMul, a, b), of(api.ExprMul, c, d)))
	tells(t, "a * b + c * d", of(api.ExprAdd, of(api.ExprMul, a, b), of(api.ExprMul, c, d)))
	tells(t, "(a + b) * (c - d)", of(api.ExprMul, of(api.ExprAdd, a, b), of(api.ExprSub, c, d)))
	tells(t, "a - -b - --c", of(api.ExprSub, of(api.ExprSub, a, of(api.ExprNeg, b)), of(api.ExprNeg, of(api.ExprNeg, c))))
	tells(t, "-(-(a + b) * c)", of(api.ExprNeg, of(api.ExprMul, of(api.ExprNeg, of(api.ExprAdd, a, b)), c)))
	tells(t, "-a * -b + -c", of(api.ExprAdd, of(api.ExprMul, of(api.ExprNeg, a), of(api.ExprNeg, b)), of(api.ExprNeg, c)))
	tells(t, "-min(a + b, -max(c * d, (a - b) * c))", of(api.ExprNeg, of(api.ExprMin, of(api.ExprAdd, a, b),
		of(api.ExprNeg, of(api.ExprMax, of(api.ExprMul, c, d), of(api.ExprMul, of(api.ExprSub, a, b), c))))))
}

// plain writes an expression by the chapter's table, bottom up.
func plain(e api.Expr) string {
	kids := make([]string, len(e.Kids))
	for n, k := range e.Kids {
		kids[n] = plain(k)
		if bracketed(e.Kind, n, k.Kind) {
			kids[n] = "(" + kids[n] + ")"
		}
	}
	switch e.Kind {
	case api.ExprNum:
		return strconv.Itoa(e.Num)
	case api.ExprName:
		return e.Text
	case api.ExprText:
		return "\"" + e.Text + "\""
	case api.ExprNeg:
		return "-" + kids[0]
	case api.ExprMin, api.ExprMax:
		return []string{api.ExprMin: "min", api.ExprMax: "max"}[e.Kind] + "(" + strings.Join(kids, ", ") + ")"
	}
	return strings.Join(kids, []string{api.ExprAdd: " + ", api.ExprSub: " - ", api.ExprMul: " * "}[e.Kind])
}

// plainItem writes an item by the chapter's table.
func plainItem(i api.Item) string {
	form := []string{api.ItemLet: "let NAME = E;", "alphabet E;", "match E;", "mismatch E;", "pair E, E;", "gap E, E;", "mode NAME;", "band E .. E;", "clip E, E;", "least E;"}[i.Kind]
	parts := strings.Split(form, "E")
	if i.Kind == api.ItemLet || i.Kind == api.ItemMode {
		head, rest, _ := strings.Cut(form, "NAME")
		parts = strings.Split(rest, "E")
		parts[0] = head + i.Name + parts[0]
	}
	s := parts[0]
	for n, e := range i.Args {
		s += plain(e) + parts[n+1]
	}
	return s + "\n"
}

// plainTree writes a tree so, however long it is.
func plainTree(t api.Tree) string {
	var b strings.Builder
	for _, i := range t.Items {
		b.WriteString(plainItem(i))
	}
	return b.String()
}

// All expressions of a few parts, each in its one form.
func TestAllSmallExpressions(t *testing.T) {
	bySize := [][]api.Expr{nil, {num(1), name("a")}}
	for size := 2; size <= 7; size++ {
		var l []api.Expr
		for _, k := range bySize[size-1] {
			l = append(l, of(api.ExprNeg, k), of(api.ExprMin, k))
		}
		for left := 1; left < size-1; left++ {
			for _, a := range bySize[left] {
				for _, b := range bySize[size-1-left] {
					l = append(l, of(api.ExprAdd, a, b), of(api.ExprSub, a, b), of(api.ExprMul, a, b), of(api.ExprMax, a, b))
				}
			}
		}
		bySize = append(bySize, l)
	}
	times := map[string]int{}
	for _, l := range bySize {
		for _, e := range l {
			got, no := pretty.Expr(e)
			if no != api.OK || got != plain(e) {
				t.Fatalf("P8.1: Expr(%v): %q, error %d; want %q", e, got, no, plain(e))
			}
			if times[got]++; times[got] > 1 {
				t.Fatalf("P8.2: two expressions are written %q", got)
			}
			readBack(t, "least "+got+";\n", tree(item(api.ItemLeast, e)))
		}
	}
	if len(times) < 10000 {
		t.Errorf("only %d expressions were looked at", len(times))
	}
}

// Not one pair of brackets may be left out: what is read without it is another tree.
func TestNoNeedlessBrackets(t *testing.T) {
	m := newMaker(5)
	pairs := 0
	for range 1500 {
		want := tree(item(api.ItemLeast, m.expr(5)))
		s, e := pretty.Print(want)
		if e == api.ErrLong {
			continue
		}
		for at, c := range s {
			if c != '(' || at >= 3 && slices.Contains([]string{"min", "max"}, s[at-3:at]) {
				continue
			}
			pairs++
			shut := closing(s, at)
			less := s[:at] + " " + s[at+1:shut] + " " + s[shut+1:]
			if got, f := syntax.Parse(less); f == (api.Fault{}) && syntax.Same(got, want) {
				t.Fatalf("P8.1: the brackets at %d of %s are needless", at, brief(s))
			}
		}
	}
	if pairs < 1000 {
		t.Errorf("only %d pairs of brackets were looked at", pairs)
	}
}

// closing is the place of the bracket that shuts the one at a place; m makes no texts with brackets within.
func closing(s string, at int) int {
	open := 0
	for n := at; ; n++ {
		switch s[n] {
		case '(':
			open++
		case ')':
			if open--; open == 0 {
				return n
			}
		}
	}
}
