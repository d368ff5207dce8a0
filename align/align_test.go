package align_test

import (
	"strings"
	"testing"

	"helix/align"
	"helix/api"
	"helix/code"
)

const (
	letters = `alphabet "ACGT"; match 2; mismatch -3; `
	// plainE is DOC.md's scheme E.
	plainE = letters + "gap 4, 1; mode global;"
)

// built is what Compile makes of a source that has a meaning, held to the plain reading.
func built(t testing.TB, source string) api.Built {
	t.Helper()
	b, f := align.Compile(source)
	if f != (api.Fault{}) {
		t.Fatalf("P20.1: %v of %q", f, source)
	}
	if want, g := plainCompile(source); b != want || g != f {
		t.Fatalf("P20.1: %+v, %v, not %+v, %v: %q", b, f, want, g, source)
	}
	return b
}

// aligned holds Align to a path and its score.
func aligned(t *testing.T, b api.Built, x, y string, score, i, j int, columns string) {
	t.Helper()
	want := api.Found{Score: score, Path: api.Path{I: i, J: j, Columns: columns}}
	if f, e := align.Align(b, x, y); f != want || e != api.OK {
		t.Errorf("P20.2: of %q and %q %v, %v, not %v", x, y, f, e, want)
	}
}

// refused holds Align to an error, and to nothing beside it.
func refused(t *testing.T, what string, b api.Built, x, y string, want api.Errno) {
	t.Helper()
	if f, e := align.Align(b, x, y); f != (api.Found{}) || e != want {
		t.Errorf("P20.2: %s: %v, %v, not %v", what, f, e, want)
	}
}

// faulty holds Compile to a fault, and to nothing beside it.
func faulty(t *testing.T, source string, want api.Errno, at int) {
	t.Helper()
	if b, f := align.Compile(source); b != (api.Built{}) || f != (api.Fault{Code: want, At: at}) {
		t.Errorf("P20.1: %q: %+v, %v, not %v at %d", source, b, f, want, at)
	}
}

func TestTheWhole(t *testing.T) {
	e := built(t, plainE)
	aligned(t, e, "ACGT", "ACGT", 8, 0, 0, "MMMM")
	aligned(t, e, "ACGT", "AGT", 1, 0, 0, "MDMM")
	aligned(t, e, "ACGT", "", -8, 0, 0, "DDDD")
	aligned(t, e, "", "", 0, 0, 0, "")
	aligned(t, e, "", "ACG", -7, 0, 0, "III")
	aligned(t, built(t, letters+"gap 4, 1; mode local;"), "AAACGTAAA", "TTCGTTT", 6, 3, 2, "MMM")
	aligned(t, built(t, letters+"gap 4, 1; mode fit;"), "TTACGTTT", "ACG", 6, 2, 0, "MMM")
	extend := built(t, letters+"gap 4, 1; mode extend; clip 0, 5;")
	aligned(t, extend, "ACGA", "ACGT", 3, 0, 0, "MMMM")
	aligned(t, extend, "ACGAA", "ACGTT", 1, 0, 0, "MMM")
	refused(t, "the corner lies off the band", built(t, plainE+"band 0 .. 0;"), "ACGT", "AGT", api.ErrNoAlignment)
	pieces := built(t, letters+"gap 1, 3; gap 10, 0; mode global;")
	aligned(t, pieces, "ACGA", "A", -8, 0, 0, "DDDM")
	aligned(t, pieces, "ACGTA", "A", -8, 0, 0, "DDDDM")
	faulty(t, `alphabet "AC"; match 1; mode global;`, api.ErrMissing, 24)
	faulty(t, "let a = 1; let a = 2;", api.ErrTwice, 11)
}

// P20.1: what stands in what was built.
func TestBuilt(t *testing.T) {
	b := built(t, plainE)
	if b.Letters != "ACGT" || b.Most != 65536 || b.Least != 0 {
		t.Errorf("P20.1: %+v", b)
	}
	c, e := code.Decode(b.Code)
	if e != api.OK || c.Letters != 4 || c.Most != 65536 || c.Table[0] != 2 || c.Table[1] != -3 {
		t.Errorf("P20.1: the code is %+v, %v", c, e)
	}
	b = built(t, `let g = 2 + 2; least g * -3; alphabet "CA"; match 1; mismatch -g; gap g, 1; mode fit;`)
	if b.Letters != "CA" || b.Most != 65536 || b.Least != -12 {
		t.Errorf("P20.1: %+v", b)
	}
	b = built(t, `alphabet "AC"; match 1125899906842624; mismatch 0; mode local; least 7;`)
	c, e = code.Decode(b.Code)
	if b.Most != 510 || b.Least != 7 || c.Most != 510 || e != api.OK {
		t.Errorf("P20.1: %+v, of the code %d, %v", b, c.Most, e)
	}
	// A gap's opening counts as a whole, as do the ends that are left out.
	if b := built(t, `alphabet "AC"; match 1; mismatch 0; mode local; gap 1125899906842623, 1;`); b.Most != 510 {
		t.Errorf("P20.1: %+v", b)
	}
	if b := built(t, `alphabet "AC"; match 1; mismatch 0; mode local; clip 0, 1125899906842625;`); b.Most != 509 {
		t.Errorf("P20.1: %+v", b)
	}
}

// P20.1: the faults of both layers that read a source, syntax ahead of check.
func TestFaults(t *testing.T) {
	faulty(t, "", api.ErrMissing, 0)
	faulty(t, "match 2", api.ErrSyntax, 7)
	faulty(t, "match 07;", api.ErrNumber, 6)
	faulty(t, "match 2; ! ;", api.ErrByte, 9)
	faulty(t, "let Match = 2;", api.ErrName, 4)
	faulty(t, `alphabet "AC;`, api.ErrText, 9)
	faulty(t, strings.Repeat("least 1;", 101), api.ErrMany, 800)
	faulty(t, "least "+strings.Repeat("-", 32)+"1;", api.ErrDeep, 0)
	faulty(t, strings.Repeat(" ", 4001), api.ErrLong, 0)
	faulty(t, "let a = b;", api.ErrNone, 8)
	faulty(t, `match "A";`, api.ErrType, 6)
	faulty(t, " gap 1, -1;", api.ErrRange, 8)
	faulty(t, `alphabet "ac";`, api.ErrAlphabet, 9)
	faulty(t, `alphabet "A";`, api.ErrAlphabet, 9)
	faulty(t, letters, api.ErrMissing, 26)
	faulty(t, plainE+"gap 1, 1;gap 1, 1;gap 1, 1;gap 1, 1;", api.ErrMany, len(plainE)+27)
	faulty(t, "let a = 1; let a = 2; match 07;", api.ErrNumber, 28)
	faulty(t, "let a = 1; let a = 2; match ;", api.ErrSyntax, 28)
}

// P20.2: what is wrong with what was built, or with a text, in the order of the promise.
func TestRefused(t *testing.T) {
	b := built(t, plainE)
	two := built(t, `alphabet "AC"; match 1; mismatch -1; mode local;`)
	with := func(letters, code string) api.Built {
		return api.Built{Letters: letters, Most: 9, Least: 1, Code: code}
	}
	refused(t, "nothing", api.Built{}, "", "", api.ErrArg)
	refused(t, "no alphabet", with("", b.Code), "", "", api.ErrArg)
	refused(t, "one letter", with("A", b.Code), "A", "A", api.ErrArg)
	refused(t, "small letters", with("acgt", b.Code), "A", "A", api.ErrArg)
	refused(t, "a letter twice", with("ACGA", b.Code), "A", "A", api.ErrArg)
	refused(t, "too many letters", with("ABCDEFGHIJKLMNOPQRSTU", b.Code), "A", "A", api.ErrArg)
	refused(t, "no alphabet stands ahead of no code", with("", "x"), "A", "A", api.ErrArg)
	refused(t, "no code", with("ACGT", "x"), "A", "A", api.ErrCode)
	refused(t, "no code at all", with("ACGT", ""), "", "", api.ErrCode)
	refused(t, "a code cut short", with("ACGT", b.Code[:len(b.Code)-1]), "", "", api.ErrCode)
	refused(t, "a code and more", with("ACGT", b.Code+"\x00"), "", "", api.ErrCode)
	refused(t, "no code stands ahead of what letters there are, and texts", with("AC", "x"), "X", "X", api.ErrCode)
	refused(t, "too few letters", with("ACG", b.Code), "", "", api.ErrArg)
	refused(t, "more letters than the code's", with("ACGT", two.Code), "", "", api.ErrArg)
	refused(t, "that stands ahead of texts", with("ACGTN", b.Code), "X", strings.Repeat("X", 65537), api.ErrArg)
	refused(t, "no letter in y", b, "ACGT", "AXT", api.ErrSymbol)
	refused(t, "no letter in x", b, "ACGN", "A", api.ErrSymbol)
	refused(t, "a blank", b, "", " ", api.ErrSymbol)
	refused(t, "a sign of another alphabet", two, "ACG", "", api.ErrSymbol)
	refused(t, "a byte beyond the letters", b, "A\xc1", "", api.ErrSymbol)
}

// P20.2: codes that may not run are told by verify's error, ahead of what letters they have.
func TestVerified(t *testing.T) {
	right := api.Code{Letters: 2, Planes: 1, Regs: 1, Lo: -5, Hi: 5, Most: 5, Table: []int{1, -1, -1, 1}, Consts: []int{0, 3}, Cell: []api.Instr{
		{Op: api.OpStart, C: api.WhereCorner}, {Op: api.OpKeep}, {Op: api.OpEnd, B: 1, C: api.WhereCorner},
	}}
	with := func(change func(c *api.Code)) api.Built {
		c := right
		c.Cell = append([]api.Instr(nil), right.Cell...)
		change(&c)
		text, e := code.Encode(c)
		if e != api.OK {
			t.Fatal(e)
		}
		return api.Built{Letters: "AC", Most: 65536, Code: text}
	}
	b := with(func(*api.Code) {})
	aligned(t, b, "", "", 3, 0, 0, "")
	refused(t, "no path leads on", b, "A", "", api.ErrNoAlignment)
	refused(t, "a register that there is not", with(func(c *api.Code) { c.Cell[1].B = 1 }), "A", "", api.ErrVerifyRef)
	refused(t, "nothing was written", with(func(c *api.Code) { c.Cell = c.Cell[1:] }), "A", "", api.ErrVerifyUse)
	refused(t, "nothing is kept", with(func(c *api.Code) { c.Cell = c.Cell[:1] }), "A", "", api.ErrVerifyStore)
	refused(t, "an arrow into the first plane", with(func(c *api.Code) { c.Arrows = []api.Arrow{{Step: api.StepM}} }), "A", "", api.ErrVerifyWay)
	refused(t, "numbers too great", with(func(c *api.Code) { c.Table = []int{0, 0, 0, 1 << 59} }), "A", "", api.ErrVerifyWide)
	wrong := with(func(c *api.Code) { c.Cell[1].B = 1 })
	wrong.Letters = "ACG"
	refused(t, "what letters there are is asked behind that", wrong, "X", "XXXXXX", api.ErrVerifyRef)
	// The code's Most counts, not that of what was built.
	aligned(t, with(func(c *api.Code) { c.Cell[2].C = api.WhereAny }), "ACAca", "cccAC", 3, 0, 0, "")
	refused(t, "too long an x", b, "ACACAC", "", api.ErrTooLong)
	refused(t, "too long a y", b, "", "ACACAC", api.ErrTooLong)
	refused(t, "all lengths are asked ahead of letters", b, "X", "ACACAC", api.ErrTooLong)
	refused(t, "all lengths are asked ahead of letters", b, "ACXCAC", "X", api.ErrTooLong)
	refused(t, "no letter", b, "ACACX", "A", api.ErrSymbol)
}

// Letters may be small, and stand in an alphabet in any order; Most and Least of what was built do not count.
func TestLetters(t *testing.T) {
	b := built(t, plainE)
	aligned(t, b, "acgt", "ACGT", 8, 0, 0, "MMMM")
	aligned(t, b, "AcGt", "aGt", 1, 0, 0, "MDMM")
	for _, n := range []int{-1, 0, 1, 1 << 62} {
		b.Most, b.Least = n, n
		aligned(t, b, "ACGT", "ACGT", 8, 0, 0, "MMMM")
	}
	other := built(t, `alphabet "TG"; pair "TG", 5; pair "GT", 7; match 1; mismatch 0; mode global;`)
	aligned(t, other, "TG", "GT", 12, 0, 0, "MM")
	aligned(t, other, "tt", "gg", 10, 0, 0, "MM")
	aligned(t, other, "GG", "TT", 14, 0, 0, "MM")
	aligned(t, other, "TG", "TG", 2, 0, 0, "MM")
	// Another alphabet may be put in the place of the code's, of as many letters.
	other.Letters = "AC"
	aligned(t, other, "AC", "CA", 12, 0, 0, "MM")
	refused(t, "its own letters are none now", other, "T", "G", api.ErrSymbol)
}

// P20.3.
func TestFormat(t *testing.T) {
	for _, c := range []struct {
		source, text string
		fault        api.Fault
	}{
		{"", "", api.Fault{}},
		{" # nothing", "", api.Fault{}},
		{"match   2;", "match 2;\n", api.Fault{}},
		{"let a=b;match((a)); # so", "let a = b;\nmatch a;\n", api.Fault{}},
		{plainE, "alphabet \"ACGT\";\nmatch 2;\nmismatch -3;\ngap 4, 1;\nmode global;\n", api.Fault{}},
		{"match   2;;", "", api.Fault{Code: api.ErrSyntax, At: 10}},
		{"match 2; gap 07, 1;", "", api.Fault{Code: api.ErrNumber, At: 13}},
		{strings.Repeat(" ", 4001), "", api.Fault{Code: api.ErrLong}},
		{strings.Repeat("least 1;", 101), "", api.Fault{Code: api.ErrMany, At: 800}},
	} {
		if text, f := align.Format(c.source); text != c.text || f != c.fault {
			t.Errorf("P20.3: %q: %q, %v, not %q, %v", c.source, text, f, c.text, c.fault)
		}
	}
}
