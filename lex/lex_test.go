package lex_test

import (
	"math/big"
	"regexp"
	"slices"
	"strconv"
	"strings"
	"testing"
	"unsafe"

	"helix/api"
	"helix/lex"
)

const words = "let alphabet match mismatch pair gap mode band clip least min max global fit local extend"

const signs = "; , = + - * ( ) .."

// The tokens, made without the package.

func num(n, at int) api.Token { return api.Token{Kind: api.TokNumber, Num: n, At: at} }

func name(s string, at int) api.Token { return api.Token{Kind: api.TokName, Text: s, At: at} }

func word(s string, at int) api.Token { return api.Token{Kind: api.TokWord, Text: s, At: at} }

func text(s string, at int) api.Token { return api.Token{Kind: api.TokText, Text: s, At: at} }

func sign(s string, at int) api.Token { return api.Token{Kind: api.TokSign, Text: s, At: at} }

func end(at int) api.Token { return api.Token{Kind: api.TokEnd, At: at} }

// A plain reading by patterns, with which the package is held.
var (
	ahead     = regexp.MustCompile(`^(?:[ \t\n]|#[^\n]*(?:\n|$))*`)
	piece     = regexp.MustCompile(`^(?:[0-9A-Za-z_]+|"[^"]*"|\.\.|[;,=+*()-])`)
	aNumber   = regexp.MustCompile(`^(?:0|[1-9][0-9]*)$`)
	aName     = regexp.MustCompile(`^[a-z][a-z0-9_]{0,15}$`)
	aText     = regexp.MustCompile(`^"[ !#-~]{0,40}"$`)
	beginsNum = regexp.MustCompile(`^[0-9]`)
	beginsRun = regexp.MustCompile(`^[A-Za-z_]`)
)

func plainWord(s string) bool { return slices.Contains(strings.Fields(words), s) }

func plainName(s string) bool { return aName.MatchString(s) && !plainWord(s) }

// plainNumber reads a number of any length.
func plainNumber(s string) (int, bool) {
	n, ok := new(big.Int).SetString(s, 10)
	if !aNumber.MatchString(s) || !ok || n.Cmp(big.NewInt(1<<56)) > 0 {
		return 0, false
	}
	return int(n.Int64()), true
}

// plain says which tokens a source has, or what is wrong, and where.
func plain(s string) ([]api.Token, int, api.Errno) {
	if len(s) > 4000 {
		return nil, 0, api.ErrLong
	}
	var l []api.Token
	for at := 0; ; {
		at += len(ahead.FindString(s[at:]))
		if at == len(s) {
			return append(l, end(at)), 0, api.OK
		}
		p := piece.FindString(s[at:])
		t, e := plainToken(p, s[at], at)
		if e != api.OK {
			return nil, at, e
		}
		l = append(l, t)
		at += len(p)
	}
}

func plainToken(p string, begins byte, at int) (api.Token, api.Errno) {
	switch {
	case beginsNum.MatchString(p):
		n, ok := plainNumber(p)
		if !ok {
			return api.Token{}, api.ErrNumber
		}
		return num(n, at), api.OK
	case beginsRun.MatchString(p):
		if plainWord(p) {
			return word(p, at), api.OK
		}
		if !plainName(p) {
			return api.Token{}, api.ErrName
		}
		return name(p, at), api.OK
	case begins == '"':
		if !aText.MatchString(p) {
			return api.Token{}, api.ErrText
		}
		return text(strings.Trim(p, `"`), at), api.OK
	case p == "":
		return api.Token{}, api.ErrByte
	}
	return sign(p, at), api.OK
}

// brief is what is told of a source.
func brief(s string) string {
	if len(s) > 60 {
		return strconv.Quote(s[:30]) + ".." + strconv.Quote(s[len(s)-30:]) + " of " + strconv.Itoa(len(s)) + " bytes"
	}
	return strconv.Quote(s)
}

// hasTokens holds a source to its tokens.
func hasTokens(t *testing.T, s string, want ...api.Token) {
	t.Helper()
	l, at, e := lex.Scan(s)
	if e != api.OK || at != 0 || !slices.Equal(l, want) {
		t.Errorf("P6.1: Scan(%s): %v, %d, %d; want %v, 0, OK", brief(s), l, at, e, want)
	}
}

// isWrong holds a source to what is wrong with it, and that nothing else is told.
func isWrong(t *testing.T, s string, at int, want api.Errno) {
	t.Helper()
	if l, n, e := lex.Scan(s); e != want || n != at || len(l) != 0 {
		t.Errorf("P6.1: Scan(%s): %v, %d, %d; want none, %d, %d", brief(s), l, n, e, at, want)
	}
}

// held holds a source to the plain reading, and what is told of it to P6.3's first sentence.
func held(t *testing.T, s string) {
	t.Helper()
	want, wantAt, wantE := plain(s)
	l, at, e := lex.Scan(s)
	if e != wantE || at != wantAt || !slices.Equal(l, want) {
		t.Errorf("P6.1: Scan(%s): %v, %d, %d; want %v, %d, %d", brief(s), l, at, e, want, wantAt, wantE)
	}
	for i := 1; i < len(l); i++ {
		if l[i].At <= l[i-1].At {
			t.Errorf("P6.3: Scan(%s): token %d at %d, the next one at %d", brief(s), i-1, l[i-1].At, l[i].At)
		}
	}
	if is := lex.IsName(s); is != plainName(s) {
		t.Errorf("P6.2: IsName(%s): %t", brief(s), is)
	}
	if is := lex.IsWord(s); is != plainWord(s) {
		t.Errorf("P6.2: IsWord(%s): %t", brief(s), is)
	}
}

func TestExamples(t *testing.T) {
	hasTokens(t, "match 2; # x", word("match", 0), num(2, 6), sign(";", 7), end(12))
	hasTokens(t, "band -3..4", word("band", 0), sign("-", 5), num(3, 6), sign("..", 7), num(4, 9), end(10))
	hasTokens(t, `"AC" a_1`, text("AC", 0), name("a_1", 5), end(8))
	hasTokens(t, "", end(0))
	isWrong(t, "let 07", 4, api.ErrNumber)
	isWrong(t, "let 7a", 4, api.ErrNumber)
	isWrong(t, "let 72057594037927937", 4, api.ErrNumber)
	hasTokens(t, "let 72057594037927936", word("let", 0), num(1<<56, 4), end(21))
	isWrong(t, "Let", 0, api.ErrName)
	isWrong(t, "_a", 0, api.ErrName)
	isWrong(t, "seventeen_letters", 0, api.ErrName)
	isWrong(t, `a "b`, 2, api.ErrText)
	isWrong(t, "\"a\n\"", 0, api.ErrText)
	isWrong(t, "a . b", 2, api.ErrByte)
	isWrong(t, "a ! b", 2, api.ErrByte)
}

func TestWholeScheme(t *testing.T) {
	s := "alphabet \"ACGT\";\n# by hand\nlet a=2;\tmatch a*(1+0);gap max(4,a), 1; clip 0, -5;"
	hasTokens(t, s,
		word("alphabet", 0), text("ACGT", 9), sign(";", 15),
		word("let", 27), name("a", 31), sign("=", 32), num(2, 33), sign(";", 34),
		word("match", 36), name("a", 42), sign("*", 43), sign("(", 44), num(1, 45), sign("+", 46), num(0, 47), sign(")", 48), sign(";", 49),
		word("gap", 50), word("max", 54), sign("(", 57), num(4, 58), sign(",", 59), name("a", 60), sign(")", 61), sign(",", 62), num(1, 64), sign(";", 65),
		word("clip", 67), num(0, 72), sign(",", 73), sign("-", 75), num(5, 76), sign(";", 77), end(78))
}

func TestLongSources(t *testing.T) {
	for _, fill := range []string{" ", "\n", "#", ";", "..", "a ", "1 ", `""`, `"a"`, "let "} {
		s := strings.Repeat(fill, 4000/len(fill))
		s += strings.Repeat(" ", 4000-len(s))
		want, _, _ := plain(s)
		hasTokens(t, s, want...)
		isWrong(t, s+" ", 0, api.ErrLong)
		isWrong(t, s+s, 0, api.ErrLong)
	}
	hasTokens(t, strings.Repeat(";", 3999)+"a", append(semicolons(3999), name("a", 3999), end(4000))...)
	// What is too long is told ahead of all that is wrong in it.
	for _, wrong := range []string{"!", "07", "A", `"`, "\x00", "\xff"} {
		isWrong(t, wrong+strings.Repeat(" ", 4001-len(wrong)), 0, api.ErrLong)
		isWrong(t, strings.Repeat(" ", 4001-len(wrong))+wrong, 0, api.ErrLong)
	}
	isWrong(t, strings.Repeat(" ", 3999)+"!", 3999, api.ErrByte)
	isWrong(t, strings.Repeat(" ", 3999)+`"`, 3999, api.ErrText)
	isWrong(t, strings.Repeat(" ", 3998)+"00", 3998, api.ErrNumber)
	isWrong(t, strings.Repeat("a", 4000), 0, api.ErrName)
	isWrong(t, "# "+strings.Repeat("x", 1<<20), 0, api.ErrLong)
}

func semicolons(n int) []api.Token {
	l := make([]api.Token, n)
	for i := range l {
		l[i] = sign(";", i)
	}
	return l
}

func TestBlanksAndRemarksAlone(t *testing.T) {
	for _, s := range []string{" ", "\t", "\n", " \t\n\n\t ", "#", "##", "#\n", "# a", "# a\n", "#\n#\n", " # let 07 !\n\t#\"", "\n#\n \n# x # y"} {
		hasTokens(t, s, end(len(s)))
	}
	hasTokens(t, "a#b", name("a", 0), end(3))
	hasTokens(t, "a#b\nc", name("a", 0), name("c", 4), end(5))
	hasTokens(t, "a#\"\n\"#\"", name("a", 0), text("#", 4), end(7))
	hasTokens(t, "1#2\n3", num(1, 0), num(3, 4), end(5))
	hasTokens(t, ".. #.\n..", sign("..", 0), sign("..", 6), end(8))
	isWrong(t, "#\n!", 2, api.ErrByte)
	isWrong(t, ".#\n.", 0, api.ErrByte)
}

func TestRemarksHaveAnyByte(t *testing.T) {
	for c := range 256 {
		b := string([]byte{byte(c)})
		if b == "\n" {
			continue
		}
		hasTokens(t, "#"+b, end(2))
		hasTokens(t, "#"+b+b+b+"\na", name("a", 5), end(6))
		hasTokens(t, "let # "+b, word("let", 0), end(7))
	}
	hasTokens(t, "# é \xe2\x82\n;", sign(";", 8), end(9))
	hasTokens(t, "#\r\n;", sign(";", 3), end(4))
}

func TestEachByteAlone(t *testing.T) {
	for c := range 256 {
		s := string([]byte{byte(c)})
		held(t, s)
		switch {
		case c == ' ' || c == '\t' || c == '\n' || c == '#':
			hasTokens(t, s, end(1))
		case c >= '0' && c <= '9':
			hasTokens(t, s, num(c-'0', 0), end(1))
		case c >= 'a' && c <= 'z':
			hasTokens(t, s, name(s, 0), end(1))
		case c >= 'A' && c <= 'Z' || c == '_':
			isWrong(t, s, 0, api.ErrName)
		case c == '"':
			isWrong(t, s, 0, api.ErrText)
		case strings.Contains(";,=+-*()", s):
			hasTokens(t, s, sign(s, 0), end(1))
		default:
			isWrong(t, s, 0, api.ErrByte)
			isWrong(t, "a"+s, 1, api.ErrByte)
			isWrong(t, "1"+s+"2", 1, api.ErrByte)
			isWrong(t, `""`+s+`"`, 2, api.ErrByte)
			isWrong(t, "# \n"+s+"#", 3, api.ErrByte)
		}
	}
	for _, s := range []string{"é", "ａ", "１", "\u00a0", "\u2028", "\ufeff", "\ufffd", "\xe2\x82", "\xc0\x80"} {
		isWrong(t, s, 0, api.ErrByte)
		isWrong(t, "a"+s, 1, api.ErrByte)
		isWrong(t, "7"+s, 1, api.ErrByte)
	}
}

func TestNumbers(t *testing.T) {
	for _, n := range []int{0, 1, 9, 10, 100, 1234567890, 1<<32 - 1, 1 << 32, 1<<56 - 1, 1 << 56} {
		s := strconv.Itoa(n)
		hasTokens(t, s, num(n, 0), end(len(s)))
		hasTokens(t, "-"+s+",", sign("-", 0), num(n, 1), sign(",", 1+len(s)), end(2+len(s)))
		isWrong(t, "+0"+s, 1, api.ErrNumber)
		isWrong(t, s+"a", 0, api.ErrNumber)
		isWrong(t, s+"Z", 0, api.ErrNumber)
		isWrong(t, s+"_", 0, api.ErrNumber)
		isWrong(t, s+"_0", 0, api.ErrNumber)
	}
	for _, s := range []string{"00", "000", "01", "0000000000000000000001", "0x1", "0b1", "1e3", "1_000", "0_", "7let", "9A",
		"72057594037927937", "72057594037927940", "72057594037928000", "80000000000000000", "100000000000000000", "720575940379279360",
		"9223372036854775807", "9223372036854775808", "18446744073709551616", "18446744073709551617", "36893488147419103233"} {
		isWrong(t, s, 0, api.ErrNumber)
		isWrong(t, "least "+s+" ;", 6, api.ErrNumber)
	}
	for n := 18; n <= 4000; n += 331 {
		isWrong(t, strings.Repeat("9", n), 0, api.ErrNumber)
		isWrong(t, "1"+strings.Repeat("0", n-1), 0, api.ErrNumber)
		isWrong(t, strings.Repeat("0", n), 0, api.ErrNumber)
	}
	// What goes past 2^64 by the digits of a right number is no right one.
	for k := int64(1); k < 40; k++ {
		s := new(big.Int).Lsh(big.NewInt(k), 64)
		isWrong(t, s.Add(s, big.NewInt(5)).String(), 0, api.ErrNumber)
	}
	hasTokens(t, "1.. 2", num(1, 0), sign("..", 1), num(2, 4), end(5))
	isWrong(t, "1.5", 1, api.ErrByte)
}

func TestNames(t *testing.T) {
	right := []string{"a", "z", "az", "a0", "a9", "a_", "a__9", "z_z", "lets", "le", "min_", "max0", "a234567890123456", "abcdefghijklmnop", strings.Repeat("z", 16), "a" + strings.Repeat("_", 15), "a" + strings.Repeat("0", 15)}
	for _, s := range right {
		hasTokens(t, s, name(s, 0), end(len(s)))
		hasTokens(t, "("+s+"\"x\"", sign("(", 0), name(s, 1), text("x", 1+len(s)), end(4+len(s)))
		if !lex.IsName(s) || lex.IsWord(s) {
			t.Errorf("P6.2: %q is a name, and no word: %t, %t", s, lex.IsName(s), lex.IsWord(s))
		}
	}
	wrong := []string{"A", "Z", "_", "_a", "__", "_0", "aB", "aBc", "abC", "Ab", "LET", "Match", "maX", "a_B", "abcdefghijklmnopq", strings.Repeat("z", 17), strings.Repeat("a", 3000), "a" + strings.Repeat("_", 16), "abcdefghijklmnoP", "Abcdefghijklmnop", "_let", "Let", "leT"}
	for _, s := range wrong {
		isWrong(t, s, 0, api.ErrName)
		isWrong(t, "; "+s+";", 2, api.ErrName)
		if lex.IsName(s) || lex.IsWord(s) {
			t.Errorf("P6.2: %s is neither a name nor a word: %t, %t", brief(s), lex.IsName(s), lex.IsWord(s))
		}
	}
	for _, s := range []string{"", " ", "1", "1a", "0a", "9_", " a", "a ", "a b", "a-b", "a.b", "a\n", "\na", "a#", "a\"", "\"a\"", "é", "aé", "a\x00", "\x00", "\xff", "a\xff", "ａ", "let ", " let", "\tlet", "let\n", "let alphabet", "let,", "min(", ";", ".."} {
		if lex.IsName(s) || lex.IsWord(s) {
			t.Errorf("P6.2: %q is neither a name nor a word: %t, %t", s, lex.IsName(s), lex.IsWord(s))
		}
	}
	for n := range 40 {
		s := strings.Repeat("q", n)
		if is := lex.IsName(s); is != (n >= 1 && n <= 16) {
			t.Errorf("P6.2: IsName of %d letters: %t", n, is)
		}
	}
	// Each byte, ahead and behind.
	for c := range 256 {
		b := string([]byte{byte(c)})
		is := c >= 'a' && c <= 'z'
		if lex.IsName(b) != is || lex.IsName(b+"q") != is {
			t.Errorf("P6.2: IsName with byte %d ahead is not %t", c, is)
		}
		is = is || c >= '0' && c <= '9' || c == '_'
		if lex.IsName("q"+b) != is || lex.IsName("q"+b+"q") != is {
			t.Errorf("P6.2: IsName with byte %d within is not %t", c, is)
		}
	}
}

// near tells all texts that are a text but for one letter more, or less, or another one.
func near(s string) []string {
	var l []string
	for i := range len(s) + 1 {
		for _, c := range "aeghlmntxz_0AZ" {
			l = append(l, s[:i]+string(c)+s[i:])
			if i < len(s) {
				l = append(l, s[:i]+string(c)+s[i+1:])
			}
		}
		if i < len(s) {
			l = append(l, s[:i]+s[i+1:], s[:i]+strings.ToUpper(s[i:i+1])+s[i+1:])
		}
	}
	return l
}

func TestWords(t *testing.T) {
	all := strings.Fields(words)
	if len(all) != 16 {
		t.Fatalf("%d words", len(all))
	}
	for _, w := range all {
		hasTokens(t, w, word(w, 0), end(len(w)))
		hasTokens(t, w+" "+w+"("+w, word(w, 0), word(w, len(w)+1), sign("(", 2*len(w)+1), word(w, 2*len(w)+2), end(3*len(w)+2))
		if lex.IsName(w) || !lex.IsWord(w) {
			t.Errorf("P6.2: %q is a word, and no name: %t, %t", w, lex.IsWord(w), lex.IsName(w))
		}
		for _, s := range near(w) {
			held(t, s)
		}
		for _, v := range all {
			hasTokens(t, w+v, name(w+v, 0), end(len(w+v)))
			held(t, w+"_"+v)
			held(t, w+" "+v)
		}
	}
	for _, s := range []string{"word", "number", "text", "end", "sub", "add", "letter", "width", "open", "of"} {
		hasTokens(t, s, name(s, 0), end(len(s)))
	}
}

func TestTexts(t *testing.T) {
	for _, s := range []string{"", " ", "~", "AC", "#", "# a", ".", "..", ";", "let", "07", "A b_c", "'", `\`, `\n`, "  ", strings.Repeat("x", 39), strings.Repeat("x", 40), strings.Repeat(" ", 40), strings.Repeat("~", 40)} {
		q := `"` + s + `"`
		hasTokens(t, q, text(s, 0), end(len(q)))
		hasTokens(t, " "+q+q+"a", text(s, 1), text(s, 1+len(q)), name("a", 1+2*len(q)), end(2+2*len(q)))
		isWrong(t, q+`"`, len(q), api.ErrText)
		held(t, q+q[1:])
		isWrong(t, `a "`+s, 2, api.ErrText)
	}
	for c := range 256 {
		b := string([]byte{byte(c)})
		for _, s := range []string{b, "a" + b, b + "a", "a" + b + "a", strings.Repeat("a", 39) + b} {
			switch {
			case c == '"':
				held(t, `"`+s+`"`)
			case c >= 32 && c <= 126:
				hasTokens(t, `"`+s+`"`, text(s, 0), end(len(s)+2))
			default:
				isWrong(t, `"`+s+`"`, 0, api.ErrText)
				isWrong(t, `=""`+" \""+s+`"`, 4, api.ErrText)
			}
		}
	}
	for _, n := range []int{41, 42, 80, 3000} {
		isWrong(t, `"`+strings.Repeat("A", n)+`"`, 0, api.ErrText)
		isWrong(t, `;"`+strings.Repeat("A", n), 1, api.ErrText)
	}
	for _, s := range []string{`"`, `"a`, `"a b # c`, "\"a\n", "\"\n\"", "\"a\nb\"", "\"\t\"", "\"\r\"", "\"\x00\"", "\"\x1f\"", "\"\x7f\"", "\"\x80\"", "\"\xff\"", `"é"`, `"` + strings.Repeat("é", 21) + `"`, "\"\ufffd\"", "\"a#\n\""} {
		isWrong(t, s, 0, api.ErrText)
		isWrong(t, "a,"+s+";!", 2, api.ErrText)
	}
}

func TestSigns(t *testing.T) {
	all := strings.Fields(signs)
	for _, a := range all {
		hasTokens(t, a, sign(a, 0), end(len(a)))
		hasTokens(t, "a"+a+"1", name("a", 0), sign(a, 1), num(1, 1+len(a)), end(2+len(a)))
		for _, b := range all {
			hasTokens(t, a+b, sign(a, 0), sign(b, len(a)), end(len(a+b)))
			hasTokens(t, a+" "+b, sign(a, 0), sign(b, len(a)+1), end(len(a+b)+1))
		}
	}
	isWrong(t, ".", 0, api.ErrByte)
	isWrong(t, "...", 2, api.ErrByte)
	hasTokens(t, "....", sign("..", 0), sign("..", 2), end(4))
	isWrong(t, ".....", 4, api.ErrByte)
	isWrong(t, ". .", 0, api.ErrByte)
	isWrong(t, ".\n.", 0, api.ErrByte)
	isWrong(t, ".. .", 3, api.ErrByte)
	isWrong(t, ".a", 0, api.ErrByte)
	isWrong(t, "a.", 1, api.ErrByte)
	isWrong(t, "1...2", 3, api.ErrByte)
}

func TestFirstFaultFromTheLeft(t *testing.T) {
	faults := []struct {
		s string
		e api.Errno
	}{{"!", api.ErrByte}, {".", api.ErrByte}, {"\x00", api.ErrByte}, {"\x80", api.ErrByte}, {"\r", api.ErrByte}, {"00", api.ErrNumber}, {"1A", api.ErrNumber}, {"A", api.ErrName}, {"_1", api.ErrName}, {"aaaaaaaaaaaaaaaaa", api.ErrName}, {"\"\t\"", api.ErrText}}
	for _, a := range faults {
		isWrong(t, "let a = 1; "+a.s+" ;", 11, a.e)
		isWrong(t, a.s+" \"", 0, a.e)
		for _, b := range faults {
			isWrong(t, a.s+" "+b.s, 0, a.e)
			isWrong(t, "match # !\n"+a.s+"\t"+b.s, 10, a.e)
		}
	}
	// A text that goes on till the next one's first '"' hides what is wrong within.
	isWrong(t, `"a ! 00 A" !`, 11, api.ErrByte)
	isWrong(t, "\"a\n00\" !", 0, api.ErrText)
	// The one look at a run tells one fault, whatever is wrong in it.
	isWrong(t, "0A_aaaaaaaaaaaaaaaaaaaaaaa", 0, api.ErrNumber)
	isWrong(t, "A0000000000000000000000000", 0, api.ErrName)
	isWrong(t, "\"\x00"+strings.Repeat("a", 60), 0, api.ErrText)
}

// eachOf tells all texts of some pieces, of up to n of them.
func eachOf(pieces []string, n int, tell func(s string)) {
	var from func(s string, n int)
	from = func(s string, n int) {
		tell(s)
		if n == 0 {
			return
		}
		for _, p := range pieces {
			from(s+p, n-1)
		}
	}
	from("", n)
}

func TestAllShortSources(t *testing.T) {
	eachOf(strings.Split("a,Z,0,7,_,\",#,\n, ,.,;,!,\x80", ","), 5, func(s string) { held(t, s) })
}

func TestAllRowsOfPieces(t *testing.T) {
	pieces := []string{"let", "min", "a", "a_1", "B", "_", "0", "07", "12", "72057594037927936", "72057594037927937", "\"", "\"ACGT\"", "..", ".", "-", ",", "\t", "\n", "# x", "\r", "é", "abcdefgh", "\x00"}
	eachOf(pieces, 3, func(s string) { held(t, s) })
}

// runLike tells whether a token is made of a run, which another one behind it would lengthen.
func runLike(k int) bool { return k == api.TokNumber || k == api.TokName || k == api.TokWord }

// sameButPlaces tells whether tokens are the same but for where they stand.
func sameButPlaces(a, b []api.Token) bool {
	return slices.EqualFunc(a, b, func(x, y api.Token) bool {
		x.At, y.At = 0, 0
		return x == y
	})
}

// P6.3: what stands between two tokens changes places alone.
func TestBlanksBetweenTokens(t *testing.T) {
	pieces := []string{"let", "a", "b_2", "0", "41", `"AC"`, `""`, "..", "-", ";", "("}
	gaps := []string{"", " ", "\t", "\n", "  ", "\n\n", "#\n", "# a 1 \" ..\n", " # x\n\t", "#\xff\n#\n"}
	for _, a := range pieces {
		for _, b := range pieces {
			for _, c := range pieces {
				first, _, e := lex.Scan(a + " " + b + " " + c)
				if e != api.OK || len(first) != 4 {
					t.Fatalf("P6.1: %q, %q, %q: %v, %d", a, b, c, first, e)
				}
				for _, g := range gaps {
					if g == "" && (runLike(first[0].Kind) && runLike(first[1].Kind) || runLike(first[1].Kind) && runLike(first[2].Kind)) {
						continue
					}
					s := g + a + g + b + g + c + g
					l, at, e := lex.Scan(s)
					if e != api.OK || at != 0 || !sameButPlaces(l, first) {
						t.Errorf("P6.3: Scan(%q): %v, %d, %d; want %v but for the places", s, l, at, e, first)
						continue
					}
					n, w := len(g), []int{len(a), len(b), len(c)}
					if l[0].At != n || l[1].At != 2*n+w[0] || l[2].At != 3*n+w[0]+w[1] || l[3].At != len(s) {
						t.Errorf("P6.3: Scan(%q): places %d, %d, %d, %d", s, l[0].At, l[1].At, l[2].At, l[3].At)
					}
				}
			}
		}
	}
	// None where two runs stand makes one of them.
	hasTokens(t, "let a", word("let", 0), name("a", 4), end(5))
	hasTokens(t, "leta", name("leta", 0), end(4))
	hasTokens(t, "a 1", name("a", 0), num(1, 2), end(3))
	hasTokens(t, "a1", name("a1", 0), end(2))
	hasTokens(t, "1 2", num(1, 0), num(2, 2), end(3))
	hasTokens(t, "12", num(12, 0), end(2))
	isWrong(t, "1a", 0, api.ErrNumber)
}

// within tells whether a text lies in the memory of another one.
func within(s, all string) bool {
	if s == "" || all == "" {
		return false
	}
	at, from := uintptr(unsafe.Pointer(unsafe.StringData(s))), uintptr(unsafe.Pointer(unsafe.StringData(all)))
	return at >= from && at < from+uintptr(len(all))
}

// R5: what is answered is the caller's own.
func TestAnswersAreNew(t *testing.T) {
	s := strings.Clone(`let ab = "AC" .. 12; ab ab "AC" let; # x`)
	first, _, _ := lex.Scan(s)
	again, _, _ := lex.Scan(s)
	kept := slices.Clone(again)
	for _, k := range first {
		if within(k.Text, s) {
			t.Errorf("R5: the text %q at %d lies in the source", k.Text, k.At)
		}
	}
	_ = append(first, api.Token{}, api.Token{})
	for i := range first {
		first[i] = api.Token{Kind: 9, Num: 9, Text: "x", At: 9}
	}
	clear(first[:cap(first)])
	if !slices.Equal(again, kept) {
		t.Errorf("R5: two answers share tokens: %v", again)
	}
	if third, at, e := lex.Scan(s); !slices.Equal(third, kept) || at != 0 || e != api.OK {
		t.Errorf("R6: %v, then %v, %d, %d", kept, third, at, e)
	}
	want, _, _ := plain(s)
	if !slices.Equal(kept, want) {
		t.Errorf("P6.1: %v; want %v", kept, want)
	}
	none, _, _ := lex.Scan("")
	none[0].At = 7
	hasTokens(t, "", end(0))
}

// R6: what went wrong ahead leaves nothing behind.
func TestNothingIsKept(t *testing.T) {
	for _, s := range []string{"a \"", "07", "!", "A", strings.Repeat(" ", 4001)} {
		lex.Scan(s)
		hasTokens(t, "a 1", name("a", 0), num(1, 2), end(3))
	}
}

func FuzzScan(f *testing.F) {
	f.Add("match 2; # x")
	f.Add("band -3..4")
	f.Add("\"AC\" a_1\n72057594037927936")
	f.Add("let 07 Let \"a\n\" . !")
	f.Fuzz(func(t *testing.T, s string) {
		held(t, s)
		l, _, e := lex.Scan(s)
		if e != api.OK {
			return
		}
		// P6.3: a remark behind, or blanks ahead, change places alone.
		for _, longer := range []string{"\t\n" + s, "# a \" 07\n" + s, s + "\n# x"} {
			if len(longer) > api.MaxSource {
				continue
			}
			if m, _, e := lex.Scan(longer); e != api.OK || !sameButPlaces(l, m) {
				t.Errorf("P6.3: Scan(%q): %v, %d; want %v but for the places", longer, m, e, l)
			}
		}
	})
}
