package align_test

import (
	"math"
	"slices"
	"strconv"
	"strings"
	"testing"

	"helix/align"
	"helix/api"
	"helix/bound"
	"helix/check"
	"helix/code"
	"helix/eval"
	"helix/path"
	"helix/recur"
	"helix/syntax"
)

// enough holds a test to how many of each kind it has seen.
func enough(t *testing.T, count map[string]int, least int, kinds ...string) {
	t.Helper()
	for _, k := range kinds {
		if count[k] < least {
			t.Errorf("of too few kinds: %q in %v", k, count)
		}
	}
}

// schemeOf is what a source means.
func schemeOf(t *testing.T, source string) api.Scheme {
	t.Helper()
	tree, _ := syntax.Parse(source)
	s, f := check.Check(tree)
	if f != (api.Fault{}) {
		t.Fatalf("the test's own source is wrong: %v of %q", f, source)
	}
	return s
}

// P20.4, T1 to T3, T6: what the definition says of short texts.
func TestTheDefinition(t *testing.T) {
	count := map[string]int{}
	for seed := range uint64(5000) {
		m := newMaker(seed)
		source, letters, model := m.source(m.size())
		b := built(t, source)
		most, e := bound.Most(model)
		if e != api.OK || b.Letters != letters || b.Most != most || b.Least != model.Least {
			t.Fatalf("P20.1: %+v of %+v: %s", b, model, source)
		}
		for range 3 {
			rows := m.IntN(8)
			x, y := m.text(letters, rows), m.text(letters, min(m.IntN(8), 8-rows))
			want, e := path.Best(model, plainNumbers(letters, x), plainNumbers(letters, y))
			got, g := align.Align(b, x, y)
			if got != want || g != e {
				t.Fatalf("P20.4: %v, %v, not %v, %v: %q of %q and %q", got, g, want, e, source, x, y)
			}
			if (g == api.ErrTooLong) != (max(len(x), len(y)) > b.Most) {
				t.Fatalf("P20.4: %v of %d and %d letters, Most being %d", g, len(x), len(y), b.Most)
			}
			count[strconv.Itoa(int(e))]++
			count["mode "+strconv.Itoa(model.Mode)]++
			count["pieces "+strconv.Itoa(len(model.Gaps))]++
			if e == api.OK && len(want.Path.Columns) > 4 {
				count["long"]++
			}
			if strings.Trim(want.Path.Columns, "M") != "" {
				count["gaps"]++
			}
		}
	}
	enough(t, count, 1000, "0", "mode 1", "mode 2", "mode 3", "mode 4", "pieces 0", "pieces 1", "pieces 2", "pieces 3", "pieces 4", "long", "gaps")
	enough(t, count, 200, "130", "170")
}

// P20.4, T1 to T3, for texts of some length: the greatest score by a plain reading, the path by the recurrence, legal and worth just that.
func TestLongerTexts(t *testing.T) {
	count := map[string]int{}
	for seed := range uint64(1500) {
		m := newMaker(seed + 1<<32)
		source, letters, model := m.source(m.size())
		b := built(t, source)
		x, y := m.text(letters, m.IntN(40)), m.text(letters, m.IntN(40))
		if max(len(x), len(y)) > b.Most {
			refused(t, source, b, x, y, api.ErrTooLong)
			count["too long"]++
			continue
		}
		rows, columns := plainNumbers(letters, x), plainNumbers(letters, y)
		greatest, is := plainGreatest(model, rows, columns)
		f, e := align.Align(b, x, y)
		if e != api.OK {
			if is || e != api.ErrNoAlignment || f != (api.Found{}) {
				t.Fatalf("T1: %v, %v, not %d: %q of %q and %q", f, e, greatest, source, x, y)
			}
			count["none"]++
			continue
		}
		if !is || f.Score != greatest {
			t.Fatalf("T1: %v, not %d, %v: %q of %q and %q", f, greatest, is, source, x, y)
		}
		if worth, e := path.Score(model, rows, columns, f.Path); e != api.OK || worth != f.Score {
			t.Fatalf("T2: %v is worth %d, %v: %q of %q and %q", f, worth, e, source, x, y)
		}
		r, _ := recur.Lower(schemeOf(t, source))
		if want, e := eval.Eval(r, rows, columns); e != api.OK || f != want {
			t.Fatalf("T3: %v, not %v, %v: %q of %q and %q", f, want, e, source, x, y)
		}
		if len(f.Path.Columns) > 20 {
			count["long"]++
		}
		if strings.Contains(f.Path.Columns, "DD") || strings.Contains(f.Path.Columns, "II") {
			count["gaps"]++
		}
	}
	enough(t, count, 40, "too long", "none", "long", "gaps")
}

// T7: a run does so many instructions at most.
func TestSteps(t *testing.T) {
	for seed := range uint64(1000) {
		m := newMaker(seed + 1<<33)
		source, _, model := m.source(m.size())
		c, e := code.Decode(built(t, source).Code)
		if e != api.OK || len(c.Cell) > 64*(len(model.Gaps)+1) {
			t.Fatalf("T7: %d instructions, %v, of %d pieces: %q", len(c.Cell), e, len(model.Gaps), source)
		}
	}
}

// P20.5, T10: a source's form has a form that is the same, and compiles to the same; and of sources that are wrong the faults are the layers'.
func TestForms(t *testing.T) {
	count := map[string]int{}
	for seed := range uint64(12000) {
		m := newMaker(seed + 1<<34)
		source, _, _ := m.source(m.size())
		if seed%4 > 0 {
			source = m.broken(source)
		}
		text, f := align.Format(source)
		if want, g := plainFormat(source); text != want || f != g {
			t.Fatalf("P20.3: %q, %v, not %q, %v: %q", text, f, want, g, source)
		}
		b, fault := align.Compile(source)
		if want, g := plainCompile(source); b != want || fault != g {
			t.Fatalf("P20.1: %+v, %v, not %+v, %v: %q", b, fault, want, g, source)
		}
		count["fault "+strconv.Itoa(int(fault.Code))]++
		if f != (api.Fault{}) {
			if f.Code != api.ErrLong && f != fault {
				t.Fatalf("P20.3: %v, but Compile tells %v: %q", f, fault, source)
			}
			continue
		}
		c, other := align.Compile(text)
		if c != b || other.Code != fault.Code {
			t.Fatalf("P20.5: %+v, %v, not %+v, %v: %q of %q", c, other, b, fault, text, source)
		}
		if again, f := align.Format(text); again != text || f != (api.Fault{}) {
			t.Fatalf("P20.5: %q, %v of %q", again, f, text)
		}
		if fault.Code != api.OK {
			count["wrong, but with a form"]++
		}
	}
	enough(t, count, 1000, "fault 0", "fault 70", "wrong, but with a form")
	enough(t, count, 10, "fault 60", "fault 61", "fault 62", "fault 63", "fault 90", "fault 91", "fault 92", "fault 93", "fault 94", "fault 10")
}

// bytes are those of a right code with some of its numbers changed, or with some of its bytes changed, or no code at all.
func (m maker) bytes(b api.Built) string {
	c, _ := code.Decode(b.Code)
	switch m.IntN(8) {
	case 0:
		return m.oneOf("", "x", "HLX1", strings.Repeat("\xff", 70000), b.Code+"x", b.Code[1:])
	case 1:
		text := []byte(b.Code)
		text[m.IntN(len(text))] ^= byte(1 << m.IntN(8))
		return string(text)
	}
	for range 1 + m.IntN(3) {
		m.change(&c)
	}
	text, e := code.Encode(c)
	if e != api.OK {
		return b.Code[:m.IntN(len(b.Code))]
	}
	return text
}

// change changes a number of a code.
func (m maker) change(c *api.Code) {
	in := &c.Cell[m.IntN(len(c.Cell))]
	switch m.IntN(12) {
	case 0:
		c.Most = m.IntN(12)
	case 1:
		c.Lo, c.Hi = m.IntN(9)-6, m.IntN(9)-2
	case 2:
		c.Table[m.IntN(len(c.Table))] = m.number(1 << m.IntN(61))
	case 3:
		in.Op = 1 + m.IntN(8)
	case 4:
		in.A = m.IntN(4)
	case 5, 6:
		in.B = m.IntN(4)
	case 7, 8:
		in.C = m.IntN(4)
	case 9:
		at := m.IntN(len(c.Cell))
		c.Cell = slices.Delete(slices.Clone(c.Cell), at, at+m.IntN(2))
	case 10:
		c.Letters = 2 + m.IntN(3)
		c.Table = append(c.Table, make([]int, 16)...)[:c.Letters*c.Letters]
	case 11:
		if len(c.Arrows) > 0 {
			c.Arrows[m.IntN(len(c.Arrows))].From = m.IntN(c.Planes)
		}
	}
}

// named tells whether an error is one that the chapter names for Align.
func named(e api.Errno) bool {
	return slices.Contains([]api.Errno{api.OK, api.ErrArg, api.ErrCode, api.ErrVerifyForm, api.ErrVerifyWay, api.ErrVerifyRef, api.ErrVerifyUse, api.ErrVerifyStore, api.ErrVerifyWide, api.ErrTooLong, api.ErrSymbol, api.ErrCells, api.ErrNoAlignment}, e)
}

// P20.6, T4: whatever was built, there is an answer or an error that the chapter names, and it is the first one of P20.2.
func TestAnyBuilt(t *testing.T) {
	count := map[string]int{}
	for seed := range uint64(12000) {
		m := newMaker(seed + 1<<35)
		source, letters, _ := m.source(m.size())
		b := built(t, source)
		b.Code = m.bytes(b)
		b.Most, b.Least = m.number(math.MaxInt32), m.number(math.MaxInt32)
		if m.IntN(4) == 0 {
			b.Letters = m.oneOf("", "A", "AC", "ACG", "ACGT", "AA", "ac", "A\x00", "ACGTACGTACGTACGTACGTA", strings.ToLower(letters), letters[1:])
		}
		x, y := m.text(letters, m.IntN(9)), m.text(letters, m.IntN(9))
		if m.IntN(8) == 0 {
			x += m.oneOf("*", " ", "\xff", "A")
		}
		if m.IntN(8) == 0 {
			y = m.oneOf("*", " ", "\n", "AC") + y
		}
		got, e := align.Align(b, x, y)
		if want, g := plainAlign(b, x, y); got != want || e != g || !named(e) {
			t.Fatalf("P20.2: %v, %v, not %v, %v: %+v, %q and %q", got, e, want, g, b, x, y)
		}
		count[strconv.Itoa(int(e))]++
	}
	enough(t, count, 50, "0", "1", "11", "130", "150", "161", "162", "163", "164", "165", "170")
}

// R6: what a call tells hangs on its arguments alone.
func TestAlike(t *testing.T) {
	for seed := range uint64(200) {
		m := newMaker(seed + 1<<36)
		source, letters, _ := m.source(m.size())
		x, y := m.text(letters, m.IntN(9)), m.text(letters, m.IntN(9))
		b := built(t, source)
		first, e := align.Align(b, x, y)
		for range 3 {
			if c := built(t, source); c != b {
				t.Fatalf("R6: %+v, not %+v", c, b)
			}
			if f, g := align.Align(b, x, y); f != first || g != e {
				t.Fatalf("R6: %v, %v, not %v, %v", f, g, first, e)
			}
		}
	}
}
