package syntax_test

import (
	"slices"
	"strconv"
	"strings"
	"testing"
	"unsafe"

	"helix/api"
	"helix/syntax"
)

// Trees, made without the package.

func num(n, at int) api.Expr { return api.Expr{Kind: api.ExprNum, Num: n, At: at} }

func name(s string, at int) api.Expr { return api.Expr{Kind: api.ExprName, Text: s, At: at} }

func text(s string, at int) api.Expr { return api.Expr{Kind: api.ExprText, Text: s, At: at} }

func of(kind, at int, kids ...api.Expr) api.Expr {
	return api.Expr{Kind: kind, Kids: kids, At: at}
}

func item(kind, at int, args ...api.Expr) api.Item {
	return api.Item{Kind: kind, Args: args, At: at}
}

func named(kind, at int, name string, args ...api.Expr) api.Item {
	return api.Item{Kind: kind, Name: name, Args: args, At: at}
}

func tree(items ...api.Item) api.Tree { return api.Tree{Items: items} }

// equal tells whether two trees are the same, their places too; a nil list and an empty one are.
func equal(a, b api.Tree) bool {
	return slices.EqualFunc(a.Items, b.Items, func(i, j api.Item) bool {
		return i.Kind == j.Kind && i.Name == j.Name && i.At == j.At && slices.EqualFunc(i.Args, j.Args, equalExpr)
	})
}

func equalExpr(a, b api.Expr) bool {
	return a.Kind == b.Kind && a.Num == b.Num && a.Text == b.Text && a.At == b.At && slices.EqualFunc(a.Kids, b.Kids, equalExpr)
}

// brief is what is told of a source.
func brief(s string) string {
	if len(s) > 100 {
		return strconv.Quote(s[:50]) + ".." + strconv.Quote(s[len(s)-50:]) + " of " + strconv.Itoa(len(s)) + " bytes"
	}
	return strconv.Quote(s)
}

// isTree holds a source to its tree; and what Parse takes is right (P7.3).
func isTree(t *testing.T, s string, items ...api.Item) {
	t.Helper()
	got, f := syntax.Parse(s)
	if f != (api.Fault{}) || !equal(got, tree(items...)) {
		t.Errorf("P7.1: Parse(%s): %v, %v; want %v", brief(s), got, f, items)
	}
	if !syntax.Right(got) {
		t.Errorf("P7.3: what Parse(%s) takes is not right", brief(s))
	}
}

// isWrong holds a source to what is wrong with it, and that nothing else is told.
func isWrong(t *testing.T, s string, at int, code api.Errno) {
	t.Helper()
	if got, f := syntax.Parse(s); f != (api.Fault{Code: code, At: at}) || len(got.Items) != 0 {
		t.Errorf("P7.1: Parse(%s): %d items, error %d at %d; want none, error %d at %d", brief(s), len(got.Items), f.Code, f.At, code, at)
	}
}

// taken is a source's tree, where it is not what is looked at.
func taken(t *testing.T, s string) api.Tree {
	t.Helper()
	got, f := syntax.Parse(s)
	if f != (api.Fault{}) {
		t.Fatalf("P7.1: Parse(%s): error %d at %d", brief(s), f.Code, f.At)
	}
	return got
}

// isLike holds the tree of a source to that of another one, places aside.
func isLike(t *testing.T, s, other string) {
	t.Helper()
	if !syntax.Same(taken(t, s), taken(t, other)) {
		t.Errorf("P7.1: the trees of %s and of %s are not the same", brief(s), brief(other))
	}
}

func isUnlike(t *testing.T, s, other string) {
	t.Helper()
	if syntax.Same(taken(t, s), taken(t, other)) {
		t.Errorf("P7.1: the trees of %s and of %s are the same", brief(s), brief(other))
	}
}

func TestExamples(t *testing.T) {
	isTree(t, "match 2; gap 4, 1 + 2 * 3;",
		item(api.ItemMatch, 0, num(2, 6)),
		item(api.ItemGap, 9, num(4, 13), of(api.ExprAdd, 18, num(1, 16), of(api.ExprMul, 22, num(2, 20), num(3, 24)))))
	isTree(t, "let a = --b;", named(api.ItemLet, 0, "a", of(api.ExprNeg, 8, of(api.ExprNeg, 9, name("b", 10)))))
	isTree(t, "band -3 .. min(a, 4);",
		item(api.ItemBand, 0, of(api.ExprNeg, 5, num(3, 6)), of(api.ExprMin, 11, name("a", 15), num(4, 18))))
	isTree(t, "")
	isWrong(t, "match ;", 6, api.ErrSyntax)
	isWrong(t, "match 2", 7, api.ErrSyntax)
	isWrong(t, "mode 3;", 5, api.ErrSyntax)
	isWrong(t, "let match = 1;", 4, api.ErrSyntax)
	isWrong(t, "least min(1,2,3,4,5,6,7,8,9);", 26, api.ErrMany)
	isWrong(t, strings.Repeat("least 1;", 101), 800, api.ErrMany)
	isWrong(t, "least "+strings.Repeat("-", 32)+"1;", 0, api.ErrDeep)
	isWrong(t, "least 07;", 6, api.ErrNumber)
}

func TestNoItems(t *testing.T) {
	for _, s := range []string{"", " ", "\n\t ", "#", "# match 2;", "# a\n\n#", strings.Repeat(" ", 4000), "#" + strings.Repeat("x", 3999)} {
		isTree(t, s)
	}
}

func TestEachItem(t *testing.T) {
	isTree(t, "let a = 1;", named(api.ItemLet, 0, "a", num(1, 8)))
	isTree(t, "alphabet \"ACGT\";", item(api.ItemAlphabet, 0, text("ACGT", 9)))
	isTree(t, "match 1;", item(api.ItemMatch, 0, num(1, 6)))
	isTree(t, "mismatch 1;", item(api.ItemMismatch, 0, num(1, 9)))
	isTree(t, "pair \"AC\", 1;", item(api.ItemPair, 0, text("AC", 5), num(1, 11)))
	isTree(t, "gap 1, 2;", item(api.ItemGap, 0, num(1, 4), num(2, 7)))
	isTree(t, "mode global;", named(api.ItemMode, 0, "global"))
	isTree(t, "mode fit;", named(api.ItemMode, 0, "fit"))
	isTree(t, "mode local;", named(api.ItemMode, 0, "local"))
	isTree(t, "mode extend;", named(api.ItemMode, 0, "extend"))
	isTree(t, "band 1 .. 2;", item(api.ItemBand, 0, num(1, 5), num(2, 10)))
	isTree(t, "clip 1, 2;", item(api.ItemClip, 0, num(1, 5), num(2, 8)))
	isTree(t, "least 1;", item(api.ItemLeast, 0, num(1, 6)))
	// What an expression means is not asked here: any one may stand in any place, and any item twice.
	isTree(t, "match \"x\";match a;let a=\"\";let a=a;mode fit;mode fit;",
		item(api.ItemMatch, 0, text("x", 6)), item(api.ItemMatch, 10, name("a", 16)),
		named(api.ItemLet, 18, "a", text("", 24)), named(api.ItemLet, 27, "a", name("a", 33)),
		named(api.ItemMode, 35, "fit"), named(api.ItemMode, 44, "fit"))
	isTree(t, "\n let\tabcdefghijklmnop =# x\n72057594037927936 ;#",
		named(api.ItemLet, 2, "abcdefghijklmnop", num(1<<56, 28)))
	isTree(t, "band a..b;band 1..2;", item(api.ItemBand, 0, name("a", 5), name("b", 8)), item(api.ItemBand, 10, num(1, 15), num(2, 18)))
	forty := strings.Repeat("~", 40)
	isTree(t, "alphabet \""+forty+"\";", item(api.ItemAlphabet, 0, text(forty, 9)))
}

func TestEachExpression(t *testing.T) {
	isTree(t, "least 12;", item(api.ItemLeast, 0, num(12, 6)))
	isTree(t, "least ab;", item(api.ItemLeast, 0, name("ab", 6)))
	isTree(t, "least \"ab\";", item(api.ItemLeast, 0, text("ab", 6)))
	isTree(t, "least -1;", item(api.ItemLeast, 0, of(api.ExprNeg, 6, num(1, 7))))
	isTree(t, "least 1 + 2;", item(api.ItemLeast, 0, of(api.ExprAdd, 8, num(1, 6), num(2, 10))))
	isTree(t, "least 1 - 2;", item(api.ItemLeast, 0, of(api.ExprSub, 8, num(1, 6), num(2, 10))))
	isTree(t, "least 1 * 2;", item(api.ItemLeast, 0, of(api.ExprMul, 8, num(1, 6), num(2, 10))))
	isTree(t, "least min(1);", item(api.ItemLeast, 0, of(api.ExprMin, 6, num(1, 10))))
	isTree(t, "least max ( 1 , a );", item(api.ItemLeast, 0, of(api.ExprMax, 6, num(1, 12), name("a", 16))))
	isTree(t, "least max(min(1, \"x\"), -a);",
		item(api.ItemLeast, 0, of(api.ExprMax, 6, of(api.ExprMin, 10, num(1, 14), text("x", 17)), of(api.ExprNeg, 23, name("a", 24)))))
	isTree(t, "least (1);", item(api.ItemLeast, 0, num(1, 7)))
	isTree(t, "least -(1 + 2) * 3;",
		item(api.ItemLeast, 0, of(api.ExprMul, 15, of(api.ExprNeg, 6, of(api.ExprAdd, 10, num(1, 8), num(2, 12))), num(3, 17))))
	isTree(t, "least 2--3;", item(api.ItemLeast, 0, of(api.ExprSub, 7, num(2, 6), of(api.ExprNeg, 8, num(3, 9)))))
	isTree(t, "least 2*-3;", item(api.ItemLeast, 0, of(api.ExprMul, 7, num(2, 6), of(api.ExprNeg, 8, num(3, 9)))))
	// A text is a text, whatever it reads like.
	for _, s := range []string{"let", "min", "global", ";", ",", "-", "(", ")", "..", "=", "1", "a", ""} {
		isTree(t, "least \""+s+"\";", item(api.ItemLeast, 0, text(s, 6)))
	}
}

func TestRowsFromTheLeft(t *testing.T) {
	isTree(t, "least a - b + c;", item(api.ItemLeast, 0, of(api.ExprAdd, 12, of(api.ExprSub, 8, name("a", 6), name("b", 10)), name("c", 14))))
	isTree(t, "least a * b * c;", item(api.ItemLeast, 0, of(api.ExprMul, 12, of(api.ExprMul, 8, name("a", 6), name("b", 10)), name("c", 14))))
	for _, x := range []string{"+ +", "+ -", "- +", "- -", "* *"} {
		s, r, _ := strings.Cut(x, " ")
		isLike(t, "least 1"+s+"2"+r+"3;", "least (1"+s+"2)"+r+"3;")
		isUnlike(t, "least 1"+s+"2"+r+"3;", "least 1"+s+"(2"+r+"3);")
		isLike(t, "least 1"+s+"2"+r+"3"+s+"4"+r+"5;", "least (((1"+s+"2)"+r+"3)"+s+"4)"+r+"5;")
	}
	for _, s := range []string{"+", "-"} {
		isLike(t, "least 1"+s+"2*3;", "least 1"+s+"(2*3);")
		isLike(t, "least 1*2"+s+"3;", "least (1*2)"+s+"3;")
		isLike(t, "least 1*2"+s+"3*4"+s+"5;", "least ((1*2)"+s+"(3*4))"+s+"5;")
		isUnlike(t, "least 1*2"+s+"3;", "least 1*(2"+s+"3);")
		isLike(t, "least -1"+s+"2;", "least (-1)"+s+"2;")
		isUnlike(t, "least -1"+s+"2;", "least -(1"+s+"2);")
	}
	isLike(t, "least -1*2;", "least (-1)*2;")
	isUnlike(t, "least -1*2;", "least -(1*2);")
	isUnlike(t, "least 1+2;", "least 1-2;")
	isUnlike(t, "least 1-2;", "least 2-1;")
	isUnlike(t, "least min(1,2);", "least max(1,2);")
	isUnlike(t, "least min(1,2);", "least min(2,1);")
	isUnlike(t, "least min(min(1,2),3);", "least min(1,2,3);")
}

func TestBracketsLeaveNothing(t *testing.T) {
	for n := range 1990 {
		if n > 60 && n < 1985 && n%97 != 0 {
			continue
		}
		open, shut := strings.Repeat("(", n), strings.Repeat(")", n)
		isTree(t, "least "+open+"1"+shut+";", item(api.ItemLeast, 0, num(1, 6+n)))
	}
	for _, n := range []int{1, 31, 32, 33, 500} {
		open, shut := strings.Repeat("(", n), strings.Repeat(")", n)
		for _, s := range []string{"a", "-1", "1+2", "1*2", "min(1)", "max(1,2)", "\"(\"", "(1-2)-3"} {
			isLike(t, "least "+open+s+shut+";", "least "+s+";")
			isLike(t, "band "+open+s+shut+" .. 2*"+open+s+shut+";", "band "+s+".. 2*("+s+");")
			isLike(t, "least max("+open+s+shut+","+s+");", "least max("+s+","+open+s+shut+");")
		}
	}
	isWrong(t, "least "+strings.Repeat("(", 3994), 4000, api.ErrSyntax)
	isWrong(t, "least "+strings.Repeat("(", 1000)+"1"+strings.Repeat(")", 1001)+";", 2007, api.ErrSyntax)
	isWrong(t, "least "+strings.Repeat("(", 1001)+"1"+strings.Repeat(")", 1000)+";", 2008, api.ErrSyntax)
}

func TestItemsTheMost(t *testing.T) {
	for _, s := range []string{"least 1;", "let a = 1;", "mode fit;", "gap 1, 2;", "band 1..2;"} {
		for _, n := range []int{1, 99, 100} {
			got := taken(t, strings.Repeat(s, n))
			if len(got.Items) != n || !syntax.Right(got) {
				t.Errorf("P7.1: %d times %q: %d items", n, s, len(got.Items))
			}
			for k, i := range got.Items {
				if i.At != k*len(s) {
					t.Errorf("P7.1: item %d of %q is at %d", k, s, i.At)
				}
			}
		}
		for _, n := range []int{101, 102, 200} {
			isWrong(t, strings.Repeat(s, n), 100*len(s), api.ErrMany)
		}
		isWrong(t, strings.Repeat(s, 100)+" # x\n "+s, 100*len(s)+6, api.ErrMany)
	}
}

// row is 1 to n, with commas between.
func row(n int) string {
	var l []string
	for k := range n {
		l = append(l, strconv.Itoa(k+1))
	}
	return strings.Join(l, ",")
}

func TestKidsTheMost(t *testing.T) {
	for word, kind := range map[string]int{"min": api.ExprMin, "max": api.ExprMax} {
		for n := 1; n <= 8; n++ {
			e := taken(t, "least "+word+"("+row(n)+");").Items[0].Args[0]
			if e.Kind != kind || len(e.Kids) != n || e.At != 6 {
				t.Errorf("P7.1: %s of %d: %v", word, n, e)
			}
			for k, kid := range e.Kids {
				if !equalExpr(kid, num(k+1, 10+2*k)) {
					t.Errorf("P7.1: %s of %d: Kid %d is %v", word, n, k, kid)
				}
			}
		}
		for _, n := range []int{9, 10, 17, 100} {
			isWrong(t, "least "+word+"("+row(n)+");", 26, api.ErrMany)
		}
		// The first token of the Kid, whatever it is.
		for _, s := range []string{"a", "\"x\"", "-1", "(1)", "((1)+2)", "1+2", "(1)*2", "min(1)", "max(1,2)", "- -1"} {
			isWrong(t, "least "+word+"("+row(8)+", # ,\n"+s+");", 31, api.ErrMany)
			isWrong(t, "least "+word+"("+row(8)+","+s+","+s+");", 26, api.ErrMany)
		}
		isWrong(t, "pair 1, 2 + "+word+"("+row(9)+");", 32, api.ErrMany)
		isWrong(t, "pair "+word+"("+row(9)+"), 2;", 25, api.ErrMany)
		isWrong(t, "let a = (((-"+word+"("+row(9)+"))));", 32, api.ErrMany)
	}
	// Each min and max counts its own.
	isTree(t, "least min(min(1),max(2));", item(api.ItemLeast, 0, of(api.ExprMin, 6, of(api.ExprMin, 10, num(1, 14)), of(api.ExprMax, 17, num(2, 21)))))
	eight := "min(" + row(8) + ")"
	got := taken(t, "gap min("+strings.Repeat(eight+",", 7)+eight+"), max("+eight+","+eight+");")
	if len(got.Items[0].Args[0].Kids) != 8 || len(got.Items[0].Args[1].Kids) != 2 || !syntax.Right(got) {
		t.Errorf("P7.1: %v", got)
	}
}

func TestTheFirstThatIsTooMany(t *testing.T) {
	nine := "min(" + row(9) + ")"
	// The ninth Kid begins ahead of its own ninth one; the first one's ninth begins ahead of the second Kid.
	isWrong(t, "least max("+row(8)+","+nine+");", 26, api.ErrMany)
	isWrong(t, "least max("+nine+","+row(8)+");", 30, api.ErrMany)
	isWrong(t, "least max("+row(7)+","+nine+",9,10);", 44, api.ErrMany)
	isWrong(t, "least "+nine+"; least "+nine+";", 26, api.ErrMany)
	isWrong(t, "gap "+nine+","+nine+";", 24, api.ErrMany)
	isWrong(t, "gap 1,"+nine+"+"+nine+";", 26, api.ErrMany)
	// Items and Kids, by place.
	hundred := strings.Repeat("least 1;", 100)
	isWrong(t, "least "+nine+";"+hundred, 26, api.ErrMany)
	isWrong(t, hundred+"least "+nine+";", 800, api.ErrMany)
	isWrong(t, strings.Repeat("least 1;", 99)+"least "+nine+"; least 1;", 792+26, api.ErrMany)
	isWrong(t, strings.Repeat("least 1;", 99)+"least 1; mode fit; least "+nine+";", 801, api.ErrMany)
}

// minus is 1 with so many '-' ahead, of a depth of one more.
func minus(n int) string { return strings.Repeat("-", n) + "1" }

// within is 1 in so many rows of a word and brackets, of a depth of one more.
func within(word string, n int) string {
	return strings.Repeat(word+"(", n) + "1" + strings.Repeat(")", n)
}

// deeply tells expressions of a depth, of each way there is.
func deeply(depth int) []string {
	n := depth - 1
	alternate := strings.Repeat("-min(", n/2) + strings.Repeat("-", n%2) + "1" + strings.Repeat(")", n/2)
	return []string{
		minus(n), strings.Repeat("-(", n) + "1" + strings.Repeat(")", n), strings.Repeat("- # x\n", n) + "a",
		"1" + strings.Repeat("+1", n), "1" + strings.Repeat("-1", n), "1" + strings.Repeat("*1", n), "1" + strings.Repeat("-1+1", n/2) + strings.Repeat("-1", n%2),
		strings.Repeat("1+(", n) + "1" + strings.Repeat(")", n), strings.Repeat("1*(", n) + "1" + strings.Repeat(")", n),
		strings.Repeat("2-(", n) + "\"x\"" + strings.Repeat(")", n),
		within("min", n), within("max", n), strings.Repeat("min(1,", n) + "1" + strings.Repeat(")", n), strings.Repeat("max(", n) + "1" + strings.Repeat(",1)", n),
		alternate,
		"1*" + minus(n-1), minus(n-1) + "*1", "1+" + minus(n-1), "1-(" + minus(n-1) + ")", "min(1," + minus(n-1) + ",2)",
		minus(n-1) + "-" + minus(n-1), "max(1,2,3,4,5,6,7," + minus(n-1) + ")",
	}
}

func TestTheDeepest(t *testing.T) {
	for _, depth := range []int{2, 16, 31, 32} {
		for _, s := range deeply(depth) {
			for _, open := range []string{"", "(", "((("} {
				got := taken(t, "least "+open+s+strings.Repeat(")", len(open))+";")
				if d := syntax.Depth(got.Items[0].Args[0]); d != depth || !syntax.Right(got) {
					t.Errorf("P7.2: the depth of %s is %d; want %d", brief(s), d, depth)
				}
			}
			for _, before := range []string{"pair 1,", "band 1..", "let a=", "clip -1,"} {
				if got := taken(t, before+s+";"); !syntax.Right(got) {
					t.Errorf("P7.3: %s is not right", brief(before+s))
				}
			}
		}
	}
	for _, depth := range []int{33, 34, 100} {
		for _, s := range deeply(depth) {
			isWrong(t, "least "+s+";", 0, api.ErrDeep)
			isWrong(t, "least 1; # x\n\tleast ("+s+");", 14, api.ErrDeep)
			isWrong(t, "pair 1,"+s+";", 0, api.ErrDeep)
			isWrong(t, " pair "+s+",1;", 1, api.ErrDeep)
			isWrong(t, "mode fit;band 1.."+s+";mode fit;", 9, api.ErrDeep)
		}
	}
	deep := minus(32)
	// The first item, and its first word, whichever of its expressions it is.
	isWrong(t, "gap 1,"+deep+";gap "+deep+",1;", 0, api.ErrDeep)
	isWrong(t, "let a=1; let b="+minus(31)+"; gap "+deep+","+deep+"; least "+deep+";", 49, api.ErrDeep)
	isWrong(t, strings.Repeat("least 1;", 99)+" least "+deep+";", 793, api.ErrDeep)
	isWrong(t, "least "+strings.Repeat("-", 3992)+"1;", 0, api.ErrDeep)
	isWrong(t, "least 1"+strings.Repeat("+1", 1996)+";", 0, api.ErrDeep)
	isWrong(t, "least "+within("min", 798)+";", 0, api.ErrDeep)
}

func TestWhichFaultIsTold(t *testing.T) {
	many, deep, hundred := "least min("+row(9)+");", "least "+minus(32)+";", strings.Repeat("least 1;", 100)
	// Of lex, ahead of all.
	isWrong(t, "match ; "+many+deep+"07", 8+len(many+deep), api.ErrNumber)
	isWrong(t, "match match ! ", 12, api.ErrByte)
	isWrong(t, "; \"", 2, api.ErrText)
	isWrong(t, many+"A", len(many), api.ErrName)
	isWrong(t, deep+".", len(deep), api.ErrByte)
	isWrong(t, "match"+strings.Repeat(" ", 3996), 0, api.ErrLong)
	// Of the grammar, ahead of too many and too deep, ahead of it or behind.
	for _, s := range []string{many, deep, hundred + "mode fit;", hundred + many, deep + many} {
		isWrong(t, s+"match", len(s)+5, api.ErrSyntax)
		isWrong(t, s+";", len(s), api.ErrSyntax)
		isWrong(t, s+"mode a;", len(s)+5, api.ErrSyntax)
		isWrong(t, "match ;"+s, 6, api.ErrSyntax)
		isWrong(t, "least 1 "+s, 8, api.ErrSyntax)
		isWrong(t, s[:len(s)-1], len(s)-1, api.ErrSyntax)
	}
	isWrong(t, hundred+";", 800, api.ErrSyntax)
	isWrong(t, hundred+"min", 800, api.ErrSyntax)
	isWrong(t, hundred+"let", 803, api.ErrSyntax)
	isWrong(t, "least min("+row(8)+",);", 26, api.ErrSyntax)
	isWrong(t, "least min("+row(8)+",", 26, api.ErrSyntax)
	isWrong(t, "least min("+row(9)+",);", 28, api.ErrSyntax)
	isWrong(t, "least min("+row(9)+";", 27, api.ErrSyntax)
	isWrong(t, "least "+minus(32), 39, api.ErrSyntax)
	isWrong(t, "least "+strings.Repeat("-", 40)+";", 46, api.ErrSyntax)
	// Too many, ahead of too deep, ahead of it or behind.
	isWrong(t, many+deep, 26, api.ErrMany)
	isWrong(t, deep+many, len(deep)+26, api.ErrMany)
	isWrong(t, deep+hundred, len(deep)+99*8, api.ErrMany)
	isWrong(t, hundred+deep, 800, api.ErrMany)
	isWrong(t, "least "+strings.Repeat("-", 32)+"min("+row(9)+");", 58, api.ErrMany)
	isWrong(t, "least min("+row(8)+","+minus(40)+");", 26, api.ErrMany)
}

func TestFaultsOfLex(t *testing.T) {
	for _, x := range []struct {
		s    string
		code api.Errno
	}{{"!", api.ErrByte}, {".", api.ErrByte}, {"\x00", api.ErrByte}, {"\xff", api.ErrByte}, {"\r", api.ErrByte}, {"00", api.ErrNumber}, {"1a", api.ErrNumber}, {"72057594037927937", api.ErrNumber}, {"A", api.ErrName}, {"_", api.ErrName}, {"seventeen_letters", api.ErrName}, {"\"\n\"", api.ErrText}, {"\"" + strings.Repeat("a", 41) + "\"", api.ErrText}} {
		isWrong(t, x.s, 0, x.code)
		isWrong(t, "match "+x.s+";", 6, x.code)
		isWrong(t, "match 1 ; "+x.s, 10, x.code)
		isWrong(t, "; ; ; "+x.s, 6, x.code)
		isWrong(t, "let a = min(1, "+x.s+" );", 15, x.code)
	}
	isWrong(t, "match \"AC;", 6, api.ErrText)
	isWrong(t, strings.Repeat(" ", 4001), 0, api.ErrLong)
	isWrong(t, strings.Repeat("least 1;", 501), 0, api.ErrLong)
	isTree(t, strings.Repeat(" ", 3992)+"least 1;", item(api.ItemLeast, 3992, num(1, 3998)))
}

// held holds a source of some pieces to the plain reading of it.
func held(t *testing.T, l []string, gap func() string) {
	t.Helper()
	s, at := lay(l, gap)
	if len(s) > api.MaxSource {
		return
	}
	want, wantFault := plain(at, len(s))
	got, f := syntax.Parse(s)
	if f != wantFault || !equal(got, want) {
		t.Errorf("P7.1: Parse(%s): %v, error %d at %d; want %v, error %d at %d", brief(s), got, f.Code, f.At, want, wantFault.Code, wantFault.At)
	}
	if f == (api.Fault{}) && (!syntax.Right(got) || !syntax.Same(got, want)) {
		t.Errorf("P7.3: what Parse(%s) takes is right: %t", brief(s), syntax.Right(got))
	}
}

// At each place of each kind of item: each word, each sign, a token of each other class, and the end.
func TestEachTokenAtEachPlace(t *testing.T) {
	for _, s := range []string{
		"let a = 1 ;", "let b = - a ;", "alphabet \"AC\" ;", "match 1 ;", "mismatch a ;", "pair \"AC\" , 1 ;", "gap 1 , 2 ;",
		"mode global ;", "mode fit ;", "mode local ;", "mode extend ;", "band - 1 .. 2 ;", "clip 1 , a ;", "least 1 ;",
		"least 1 + 2 - 3 * 4 ;", "least - ( 1 + a ) * 2 ;", "least min ( 1 , a , - 2 ) ;", "least max ( ( 1 ) ) ;",
		"gap min ( 1 , 2 ) , max ( a ) ;", "band ( 1 ) .. ( 2 * 3 ) ;", "let a = 1 ; mode fit ; least a ;",
	} {
		l := strings.Fields(s)
		held(t, l, blank)
		for n := range l {
			held(t, l[:n], blank)
			held(t, slices.Delete(slices.Clone(l), n, n+1), blank)
			for _, p := range anyPieces {
				changed := slices.Clone(l)
				changed[n] = p
				held(t, changed, blank)
				held(t, slices.Insert(slices.Clone(l), n, p), blank)
				held(t, append(slices.Clone(l[:n]), p), blank)
			}
		}
	}
}

func TestNamesAndWordsAndWays(t *testing.T) {
	for _, w := range strings.Fields(itemWords + " " + wayWords + " min max") {
		isWrong(t, "let "+w+" = 1;", 4, api.ErrSyntax)
		isLike(t, "let "+w+"_ = 1;", "let "+w+"_=1;")
		if w != "min" && w != "max" {
			isWrong(t, "least "+w+";", 6, api.ErrSyntax)
			isWrong(t, "least -"+w+"(1);", 7, api.ErrSyntax)
		}
		if !hasWord(wayWords, w) {
			isWrong(t, "mode "+w+";", 5, api.ErrSyntax)
		}
		if !hasWord(itemWords, w) {
			isWrong(t, w+" 1;", 0, api.ErrSyntax)
		}
		isWrong(t, "\""+w+"\" 1;", 0, api.ErrSyntax)
		isWrong(t, "let \""+w+"\" = 1;", 4, api.ErrSyntax)
		isWrong(t, "mode \""+w+"\";", 5, api.ErrSyntax)
		isWrong(t, "mode "+w+"_;", 5, api.ErrSyntax)
		isWrong(t, w+"_ 1;", 0, api.ErrSyntax)
	}
	isWrong(t, "mode;", 4, api.ErrSyntax)
	isWrong(t, "mode fit, local;", 8, api.ErrSyntax)
	isWrong(t, "mode (fit);", 5, api.ErrSyntax)
	isWrong(t, "let 1 = 1;", 4, api.ErrSyntax)
	isWrong(t, "let a 1;", 6, api.ErrSyntax)
	isWrong(t, "a = 1;", 0, api.ErrSyntax)
	isWrong(t, "least min;", 9, api.ErrSyntax)
	isWrong(t, "least min();", 10, api.ErrSyntax)
	isWrong(t, "least min 1;", 10, api.ErrSyntax)
	isWrong(t, "least min(1;", 11, api.ErrSyntax)
	isWrong(t, "least (1, 2);", 8, api.ErrSyntax)
	isWrong(t, "least ();", 7, api.ErrSyntax)
	isWrong(t, "least +1;", 6, api.ErrSyntax)
	isWrong(t, "least 1 2;", 8, api.ErrSyntax)
	isWrong(t, "least a(1);", 7, api.ErrSyntax)
	isWrong(t, "band 1, 2;", 6, api.ErrSyntax)
	isWrong(t, "gap 1 .. 2;", 6, api.ErrSyntax)
	isWrong(t, "gap 1;", 5, api.ErrSyntax)
	isWrong(t, "gap 1, 2, 3;", 8, api.ErrSyntax)
	// A text is no sign, whatever it reads like.
	isWrong(t, "least 1\";\"", 7, api.ErrSyntax)
	isWrong(t, "gap 1\",\"2;", 5, api.ErrSyntax)
	isWrong(t, "least 1\"+\"2;", 7, api.ErrSyntax)
	isWrong(t, "least min\"(\"1);", 9, api.ErrSyntax)
	isWrong(t, "let a\"=\"1;", 5, api.ErrSyntax)
}

// eachRow tells all rows of up to n of some pieces, behind those of before.
func eachRow(before, pieces []string, n int, tell func(l []string)) {
	tell(before)
	if n == 0 {
		return
	}
	for _, p := range pieces {
		eachRow(append(slices.Clone(before), p), pieces, n-1, tell)
	}
}

func TestAllShortRows(t *testing.T) {
	look := func(l []string) { held(t, l, blank) }
	eachRow(nil, anyPieces, 2, look)
	eachRow(nil, strings.Fields("let mode least band gap fit a 1 = .. , ;"), 4, look)
	inner := strings.Fields("1 a - + * ( ) min , ;")
	for _, s := range []string{"least", "least ( 1", "least min ( 1", "gap 1 -", "least - 2 *"} {
		eachRow(strings.Fields(s), inner, 4, look)
	}
}

func TestRowsByTheGrammar(t *testing.T) {
	w := newWriter(1)
	for range 800 {
		l := w.source(4, 3)
		held(t, l, w.gap)
		held(t, l, blank)
		held(t, w.broken(l), w.gap)
		held(t, w.broken(w.broken(l)), blank)
	}
	// Ones that are near the limits.
	for range 120 {
		l := strings.Fields(strings.Repeat("least 1 ; ", 95+w.IntN(5)))
		held(t, append(l, w.source(8, 1)...), blank)
		held(t, slices.Insert(l, 3*w.IntN(90), w.item(2)...), blank)
		deep := append(strings.Fields("least "+strings.Repeat("- ", 25+w.IntN(4))), w.factor(5)...)
		held(t, append(deep, ";"), blank)
		held(t, w.broken(append(deep, ";")), blank)
		kids := append(strings.Fields("least max ( "+strings.Repeat("1 , ", 6+w.IntN(3))), w.factor(3)...)
		held(t, append(kids, ")", ";"), blank)
		held(t, append(kids, ",", "1", ")", ";"), blank)
	}
}

// P7.3: blanks and remarks change places alone.
func TestBlanksChangePlacesAlone(t *testing.T) {
	w := newWriter(2)
	for range 300 {
		l := w.source(3, 3)
		s, _ := lay(l, blank)
		first, f := syntax.Parse(s)
		for range 4 {
			other, _ := lay(l, w.gap)
			if len(s) > api.MaxSource || len(other) > api.MaxSource {
				continue
			}
			second, g := syntax.Parse(other)
			if f.Code != g.Code || !syntax.Same(first, second) {
				t.Errorf("P7.3: %s and %s: error %d and %d, or trees that are not the same", brief(s), brief(other), f.Code, g.Code)
			}
		}
	}
	isLike(t, "let a=-1+min(2,b)*(3);band-1..2;", "\n# x\nlet\ta # =\n=\n- 1 + min ( 2 , b ) * ( 3 ) ;band - 1 .. 2 ; #")
	isTree(t, " # 1\n match\n\t2 # ;\n;", item(api.ItemMatch, 6, num(2, 13)))
}

// memory is where a list or a text lies.
type memory struct{ from, to uintptr }

func (m memory) meets(o memory) bool { return m.from < o.to && o.from < m.to }

func roomOf[T any](l []T) memory {
	var one T
	from := uintptr(unsafe.Pointer(unsafe.SliceData(l)))
	return memory{from, from + uintptr(cap(l))*unsafe.Sizeof(one)}
}

func placeOf(s string) memory {
	from := uintptr(unsafe.Pointer(unsafe.StringData(s)))
	return memory{from, from + uintptr(len(s))}
}

// eachExpr tells the expressions of a list, and those within.
func eachExpr(l []api.Expr, tell func(e *api.Expr)) {
	for n := range l {
		tell(&l[n])
		eachExpr(l[n].Kids, tell)
	}
}

// lists tells where the lists of a tree lie, and its texts.
func lists(t api.Tree) (rooms, texts []memory) {
	rooms = append(rooms, roomOf(t.Items))
	for _, i := range t.Items {
		rooms, texts = append(rooms, roomOf(i.Args)), append(texts, placeOf(i.Name))
		eachExpr(i.Args, func(e *api.Expr) {
			rooms, texts = append(rooms, roomOf(e.Kids)), append(texts, placeOf(e.Text))
		})
	}
	return rooms, texts
}

// R5: what is answered is the caller's own.
func TestAnswersAreNew(t *testing.T) {
	s := strings.Clone(`let ab = min(1, ab, "AC") - -ab * 2 + 3; mode local; band ab .. max(min("x", ab), "AC"); pair ("AC" + 1), 2;`)
	first, again := taken(t, s), taken(t, s)
	rooms, texts := lists(first)
	for _, m := range texts {
		if m.meets(placeOf(s)) {
			t.Error("R5: a text lies in the source")
		}
	}
	for n, m := range rooms {
		if m.meets(placeOf(s)) {
			t.Error("R5: a list lies in the source")
		}
		for _, o := range rooms[:n] {
			if m.meets(o) {
				t.Error("R5: two lists of an answer share memory")
			}
		}
	}
	others, _ := lists(again)
	for _, m := range rooms {
		for _, o := range others {
			if m.meets(o) {
				t.Error("R5: two answers share memory")
			}
		}
	}
	want := taken(t, s)
	for n := range first.Items {
		eachExpr(first.Items[n].Args, func(e *api.Expr) { e.Kind, e.Num, e.Text, e.At = 9, 9, "x", 9 })
		first.Items[n] = api.Item{}
	}
	if third := taken(t, s); !equal(again, want) || !equal(third, want) {
		t.Error("R5: what is done with an answer changes another one")
	}
}

// R6: what went wrong ahead leaves nothing behind.
func TestNothingIsKept(t *testing.T) {
	for _, s := range []string{"match ;", "least min(" + row(9) + ");", "least " + minus(40) + ";", "07", strings.Repeat("least 1;", 101), "least (((", strings.Repeat(" ", 4001)} {
		syntax.Parse(s)
		isTree(t, "match 2;", item(api.ItemMatch, 0, num(2, 6)))
	}
}

func FuzzParse(f *testing.F) {
	f.Add("match 2; gap 4, 1 + 2 * 3;")
	f.Add("let a = --b; band -3 .. min(a, 4);")
	f.Add("least min(1,2,3,4,5,6,7,8,9); mode fit;")
	f.Add("pair \"AC\", (1 - 2) * max(a); # x")
	f.Fuzz(func(t *testing.T, s string) {
		got, fault := syntax.Parse(s)
		if fault.Code != api.OK && (len(got.Items) != 0 || fault.At < 0 || fault.At > len(s)) {
			t.Errorf("R3: Parse(%q): %v, %v", s, got, fault)
		}
		if fault.Code == api.OK && (fault.At != 0 || !syntax.Right(got) || !syntax.Same(got, got)) {
			t.Errorf("P7.3: Parse(%q): %v, %v", s, got, fault)
		}
		if longer := "\t# a\n" + s + "\n#"; len(longer) <= api.MaxSource {
			more, g := syntax.Parse(longer)
			if g.Code != fault.Code || !syntax.Same(got, more) {
				t.Errorf("P7.3: Parse(%q): %v, %v", longer, more, g)
			}
		}
	})
}
