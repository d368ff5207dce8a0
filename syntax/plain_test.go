package syntax_test

import (
	"math/rand/v2"
	"slices"
	"strconv"
	"strings"

	"helix/api"
)

// A plain reading of the chapter, with which the package is held: it knows neither the package nor lex. Sources are rows of pieces, each one token.

// piece is a token as it is written, and its place.
type piece struct {
	s  string
	at int
}

const (
	itemWords = "let alphabet match mismatch pair gap mode band clip least"
	wayWords  = "global fit local extend"
)

func hasWord(words, s string) bool { return slices.Contains(strings.Fields(words), s) }

// class is what the grammar calls a piece: NAME, NUMBER, TEXT, or the word or sign itself.
func class(s string) string {
	switch c := s[0]; {
	case c == '"':
		return "TEXT"
	case c >= '0' && c <= '9':
		return "NUMBER"
	case c >= 'a' && c <= 'z' && !hasWord(itemWords+" "+wayWords+" min max", s):
		return "NAME"
	}
	return s
}

// The chapter's grammar, rule by rule; what stands in no rule's name is a token's class.
var grammar = []string{
	"source > END", "source > item source",
	"item > let NAME = expr ;", "item > alphabet expr ;", "item > match expr ;", "item > mismatch expr ;",
	"item > pair expr , expr ;", "item > gap expr , expr ;", "item > mode way ;", "item > band expr .. expr ;",
	"item > clip expr , expr ;", "item > least expr ;",
	"way > global", "way > fit", "way > local", "way > extend",
	"expr > term", "expr > expr + term", "expr > expr - term",
	"term > factor", "term > term * factor",
	"factor > - factor", "factor > NUMBER", "factor > NAME", "factor > TEXT", "factor > ( expr )",
	"factor > min ( list )", "factor > max ( list )",
	"list > expr", "list > list , expr",
}

// rule is one of the grammar: its name, and what it is made of.
type rule struct {
	name string
	of   []string
}

func rules() []rule {
	var l []rule
	for _, s := range grammar {
		f := strings.Fields(s)
		l = append(l, rule{f[0], f[2:]})
	}
	return l
}

var allRules = rules()

// begun is a rule that has been begun behind so many tokens, and of which so much has been.
type begun struct{ rule, had, from int }

// wants is what must come next; nothing if the rule is through.
func (b begun) wants() string {
	if r := allRules[b.rule]; b.had < len(r.of) {
		return r.of[b.had]
	}
	return ""
}

// looked is all that may have been begun behind some tokens.
type looked []begun

func (l *looked) add(b begun) {
	if !slices.Contains(*l, b) {
		*l = append(*l, b)
	}
}

// fill goes on by rules alone, till nothing is new.
func fill(all []looked, at int) {
	l := &all[at]
	for n := 0; n < len(*l); n++ {
		b := (*l)[n]
		if b.wants() == "" {
			for _, c := range all[b.from] {
				if c.wants() == allRules[b.rule].name {
					l.add(begun{c.rule, c.had + 1, c.from})
				}
			}
		}
		for i, r := range allRules {
			if r.name == b.wants() {
				l.add(begun{i, 0, at})
			}
		}
	}
}

// firstWrong tells the number of the first token with which no source goes on (the end is one, behind all), -1 if there is none: of all rules at once, whatever the next token were.
func firstWrong(classes []string) int {
	all := []looked{{{0, 0, 0}, {1, 0, 0}}}
	fill(all, 0)
	for n, c := range append(slices.Clone(classes), "END") {
		var l looked
		for _, b := range all[n] {
			if b.wants() == c {
				l.add(begun{b.rule, b.had + 1, b.from})
			}
		}
		if len(l) == 0 {
			return n
		}
		all = append(all, l)
		fill(all, n+1)
	}
	return -1
}

// plain says what a source of some pieces is, or what is wrong with it.
func plain(l []piece, length int) (api.Tree, api.Fault) {
	var classes []string
	for _, p := range l {
		classes = append(classes, class(p.s))
	}
	if n := firstWrong(classes); n == len(l) {
		return api.Tree{}, api.Fault{Code: api.ErrSyntax, At: length}
	} else if n >= 0 {
		return api.Tree{}, api.Fault{Code: api.ErrSyntax, At: l[n].at}
	}
	if at := plainMany(l); at >= 0 {
		return api.Tree{}, api.Fault{Code: api.ErrMany, At: at}
	}
	var t api.Tree
	for _, part := range cut(l, ";") {
		if len(part) > 0 {
			t.Items = append(t.Items, plainItem(part))
		}
	}
	for _, i := range t.Items {
		for _, e := range i.Args {
			if plainDepth(e) > 32 {
				return api.Tree{}, api.Fault{Code: api.ErrDeep, At: i.At}
			}
		}
	}
	return t, api.Fault{}
}

// plainMany tells the place of the first token that begins an item or a Kid too many, -1 if none does.
func plainMany(l []piece) int {
	items, open := 0, []int{}
	for n, p := range l {
		switch p.s {
		case "(":
			// A bracket of its own has no commas; it may count what it likes.
			open = append(open, 1)
		case ")":
			open = open[:len(open)-1]
		case ",":
			if len(open) > 0 {
				open[len(open)-1]++
				if open[len(open)-1] == 9 {
					return l[n+1].at
				}
			}
		case ";":
			items++
			if items == 100 && n+1 < len(l) {
				return l[n+1].at
			}
		}
	}
	return -1
}

// cut parts a row at a sign, but not within brackets.
func cut(l []piece, sign string) [][]piece {
	var parts [][]piece
	open, from := 0, 0
	for n, p := range l {
		switch {
		case p.s == "(":
			open++
		case p.s == ")":
			open--
		case p.s == sign && open == 0:
			parts, from = append(parts, l[from:n]), n+1
		}
	}
	return append(parts, l[from:])
}

func plainItem(l []piece) api.Item {
	i := api.Item{Kind: slices.Index(strings.Fields(itemWords), l[0].s) + 1, At: l[0].at}
	switch rest := l[1:]; l[0].s {
	case "mode":
		i.Name = rest[0].s
	case "let":
		i.Name = rest[0].s
		i.Args = []api.Expr{plainExpr(rest[2:])}
	case "band":
		for _, part := range cut(rest, "..") {
			i.Args = append(i.Args, plainExpr(part))
		}
	default:
		for _, part := range cut(rest, ",") {
			i.Args = append(i.Args, plainExpr(part))
		}
	}
	return i
}

// lastBetween tells where the last of some signs stands that has something to add, take or multiply ahead of it, and is in no brackets; -1 if none.
func lastBetween(l []piece, signs string) int {
	open, last := 0, -1
	for n, p := range l {
		switch p.s {
		case "(":
			open++
		case ")":
			open--
		default:
			if open == 0 && n > 0 && hasWord(signs, p.s) && !hasWord("+ - *", l[n-1].s) {
				last = n
			}
		}
	}
	return last
}

// plainExpr reads a row that is an expression: what binds least, and of that the last one, is its head.
func plainExpr(l []piece) api.Expr {
	for _, signs := range []string{"+ -", "*"} {
		if n := lastBetween(l, signs); n >= 0 {
			kind := map[string]int{"+": api.ExprAdd, "-": api.ExprSub, "*": api.ExprMul}[l[n].s]
			return api.Expr{Kind: kind, Kids: []api.Expr{plainExpr(l[:n]), plainExpr(l[n+1:])}, At: l[n].at}
		}
	}
	switch head := l[0]; class(head.s) {
	case "-":
		return api.Expr{Kind: api.ExprNeg, Kids: []api.Expr{plainExpr(l[1:])}, At: head.at}
	case "(":
		return plainExpr(l[1 : len(l)-1])
	case "NUMBER":
		n, _ := strconv.Atoi(head.s)
		return api.Expr{Kind: api.ExprNum, Num: n, At: head.at}
	case "NAME":
		return api.Expr{Kind: api.ExprName, Text: head.s, At: head.at}
	case "TEXT":
		return api.Expr{Kind: api.ExprText, Text: strings.Trim(head.s, `"`), At: head.at}
	default:
		e := api.Expr{Kind: map[string]int{"min": api.ExprMin, "max": api.ExprMax}[head.s], At: head.at}
		for _, part := range cut(l[2:len(l)-1], ",") {
			e.Kids = append(e.Kids, plainExpr(part))
		}
		return e
	}
}

// plainDepth goes down by rows of Kids, not by itself.
func plainDepth(e api.Expr) int {
	depth := 0
	for row := []api.Expr{e}; len(row) > 0; depth++ {
		var next []api.Expr
		for _, e := range row {
			next = append(next, e.Kids...)
		}
		row = next
	}
	return depth
}

// lay writes pieces down as a source, with what gap tells ahead of each and behind all, and tells where they stand.
func lay(l []string, gap func() string) (string, []piece) {
	var b strings.Builder
	var at []piece
	for _, s := range l {
		b.WriteString(gap())
		at = append(at, piece{s, b.Len()})
		b.WriteString(s)
	}
	b.WriteString(gap())
	return b.String(), at
}

func blank() string { return " " }

// writer makes rows of pieces by the grammar, by numbers that are the same each time.
type writer struct{ *rand.Rand }

func newWriter(seed uint64) writer { return writer{rand.New(rand.NewPCG(seed, 7))} }

func (w writer) oneOf(l ...string) string { return l[w.IntN(len(l))] }

func (w writer) gap() string {
	return w.oneOf(" ", " ", "\n", "\t ", " # a, 07 \"\n", "#\n", "  \n\n")
}

func (w writer) source(items, deep int) []string {
	var l []string
	for range w.IntN(items + 1) {
		l = append(l, w.item(deep)...)
	}
	return l
}

func (w writer) item(deep int) []string {
	word := w.oneOf(strings.Fields(itemWords)...)
	l := []string{word}
	switch word {
	case "let":
		l = append(append(l, w.name(), "="), w.expr(deep)...)
	case "mode":
		l = append(l, w.oneOf(strings.Fields(wayWords)...))
	case "band":
		l = append(append(append(l, w.expr(deep)...), ".."), w.expr(deep)...)
	case "pair", "gap", "clip":
		l = append(append(append(l, w.expr(deep)...), ","), w.expr(deep)...)
	default:
		l = append(l, w.expr(deep)...)
	}
	return append(l, ";")
}

func (w writer) name() string { return w.oneOf("a", "b_2", "lets", "minimum", "abcdefghijklmnop") }

func (w writer) expr(deep int) []string {
	l := w.term(deep)
	for w.IntN(3) == 0 {
		l = append(append(l, w.oneOf("+", "-")), w.term(deep)...)
	}
	return l
}

func (w writer) term(deep int) []string {
	l := w.factor(deep)
	for w.IntN(4) == 0 {
		l = append(append(l, "*"), w.factor(deep)...)
	}
	return l
}

func (w writer) factor(deep int) []string {
	n := 8
	if deep == 0 {
		n = 4
	}
	switch w.IntN(n) {
	case 0:
		return []string{w.name()}
	case 1:
		return []string{w.oneOf(`""`, `"ACGT"`, `"("`, `";"`, `"let"`, `"min"`, `"- 1"`)}
	case 2, 3:
		return []string{w.oneOf("0", "1", "23", "72057594037927936")}
	case 4, 5:
		return append([]string{"-"}, w.factor(deep-1)...)
	case 6:
		return append(append([]string{"("}, w.expr(deep-1)...), ")")
	}
	l := append([]string{w.oneOf("min", "max"), "("}, w.expr(deep-1)...)
	for w.IntN(3) > 0 {
		l = append(append(l, ","), w.expr(deep-1)...)
	}
	return append(l, ")")
}

// broken is a row of pieces of which one is left out, doubled, put elsewhere, or another.
func (w writer) broken(l []string) []string {
	if len(l) == 0 {
		return []string{w.any()}
	}
	n, m := w.IntN(len(l)), w.IntN(len(l))
	b := slices.Clone(l)
	switch w.IntN(6) {
	case 0:
		return slices.Delete(b, n, n+1)
	case 1:
		return slices.Insert(b, n, b[m])
	case 2:
		b[n], b[m] = b[m], b[n]
		return b
	case 3:
		return b[:n]
	case 4:
		return slices.Insert(b, n, w.any())
	}
	b[n] = w.any()
	return b
}

func (w writer) any() string { return w.oneOf(anyPieces...) }

// anyPieces has each sign and word, and some of each other class.
var anyPieces = append(strings.Fields("; , = + - * ( ) .. min max a b_2 7 0 \"AC\" \"\""), strings.Fields(itemWords+" "+wayWords)...)
