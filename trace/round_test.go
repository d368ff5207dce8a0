package trace_test

import (
	"reflect"
	"slices"
	"sync"
	"testing"

	"helix/api"
	"helix/check"
	"helix/eval"
	"helix/path"
	"helix/recur"
	"helix/syntax"
	"helix/trace"
)

// made are a code that may run, and two sequences.
func made(seed uint64) (api.Code, []int, []int) {
	m := newMaker(seed)
	return m.code(), m.letters(2, m.IntN(6)), m.letters(2, m.IntN(6))
}

// Walk is held to the plain reading, over codes of many shapes (R1, R3).
func TestManyWalks(t *testing.T) {
	count := map[string]int{}
	for seed := range uint64(20000) {
		c, x, y := made(seed)
		r := ran(t, c, x, y)
		want, e, choice := walked(c, r)
		got, e2 := trace.Walk(r)
		if got != want || e != e2 {
			t.Fatalf("R1, R3: %+v, %v, %v: %+v, %v, not %+v, %v", c, x, y, got, e2, want, e)
		}
		switch long := len(got.Path.Columns); {
		case e != api.OK:
			count["none"]++
		case long == 0:
			count["no column"]++
		case long > 3 && choice > 3:
			count["long, of many"]++
		case choice > 1:
			count["of several"]++
		default:
			count["one"]++
		}
	}
	for _, kind := range []string{"none", "no column", "one", "of several", "long, of many"} {
		if count[kind] < 500 {
			t.Error("of too few kinds", kind, count)
		}
	}
}

// The path ends where Best says, begins where plane 0 has a number, and all its cells were run (R3).
func TestCellsOfAPath(t *testing.T) {
	for seed := range uint64(20000) {
		c, x, y := made(seed)
		r := ran(t, c, x, y)
		f, e := trace.Walk(r)
		if e != api.OK {
			continue
		}
		score, i, j, _, _ := r.Best()
		if a, b := trace.End(f.Path); a != i || b != j || f.Score != score {
			t.Fatalf("R1, R3: %+v, %v, %v: %+v ends at (%d, %d), not %d at (%d, %d)", c, x, y, f, a, b, score, i, j)
		}
		if _, has := r.Value(0, f.Path.I, f.Path.J); !has {
			t.Fatalf("R3: %+v, %v, %v: %+v begins where plane 0 has nothing", c, x, y, f)
		}
		for k := range len(f.Path.Columns) + 1 {
			i, j := trace.End(api.Path{I: f.Path.I, J: f.Path.J, Columns: f.Path.Columns[:k]})
			if i < 0 || i > len(x) || j < 0 || j > len(y) || j-i < c.Lo || j-i > c.Hi {
				t.Fatalf("R3: %+v, %v, %v: %+v goes through (%d, %d)", c, x, y, f, i, j)
			}
		}
	}
}

// Of all paths that could be gone back, none stands ahead of it in chapter 11's order (R3).
func TestFirstInOrder(t *testing.T) {
	for seed := range uint64(3000) {
		c, x, y := made(seed)
		r := ran(t, c, x, y)
		f, e := trace.Walk(r)
		if e != api.OK {
			continue
		}
		_, i, j, planes, _ := r.Best()
		p := &plain{c, r, map[spot][]string{}}
		for _, plane := range planes {
			for _, text := range p.texts(spot{plane, i, j}) {
				columns := []byte(text)
				slices.Reverse(columns)
				other := api.Path{Columns: string(columns)}
				a, b := trace.End(other)
				other.I, other.J = i-a, j-b
				if path.Less(other, f.Path) {
					t.Fatalf("R3: %+v, %v, %v: %+v stands ahead of %+v", c, x, y, other, f.Path)
				}
			}
		}
	}
}

// said holds what a recurrence, laid as a code, finds to what eval says of it.
func said(t *testing.T, r api.Recur, x, y []int) api.Errno {
	t.Helper()
	numbers, e := check.Values(r.Defs...)
	if e != api.OK {
		t.Fatal(e)
	}
	want, e := eval.Eval(r, x, y)
	got, e2 := trace.Walk(ran(t, laid(r, numbers), x, y))
	if got != want || e != e2 {
		t.Fatalf("R1, R3: %+v, %v, %v: %+v, %v, not %+v, %v", r, x, y, got, e2, want, e)
	}
	return e
}

// A recurrence's best path, the first of its like, is found (R1, R3).
func TestManyRecurrences(t *testing.T) {
	count := map[api.Errno]int{}
	for seed := range uint64(6000) {
		m := newMaker(seed)
		r := m.recur()
		count[said(t, r, m.letters(r.Letters, m.IntN(8)), m.letters(r.Letters, m.IntN(8)))]++
	}
	for seed := range uint64(100) {
		m := newMaker(seed + 1<<32)
		r := m.recur()
		count[said(t, r, m.letters(r.Letters, m.IntN(100)), m.letters(r.Letters, m.IntN(100)))]++
	}
	if count[api.OK] < 2000 || count[api.ErrNoAlignment] < 500 {
		t.Error("of too few kinds", count)
	}
}

// lowered is a source as a recurrence.
func lowered(t *testing.T, source string) api.Recur {
	t.Helper()
	tree, fault := syntax.Parse(source)
	if fault != (api.Fault{}) {
		t.Fatal(source, fault)
	}
	scheme, fault := check.Check(tree)
	if fault != (api.Fault{}) {
		t.Fatal(source, fault)
	}
	r, e := recur.Lower(scheme)
	if e != api.OK {
		t.Fatal(source, e)
	}
	return r
}

// seq is a text of ACGT as a sequence.
func seq(s string) []int {
	var l []int
	for k := range len(s) {
		l = append(l, map[byte]int{'A': 0, 'C': 1, 'G': 2, 'T': 3}[s[k]])
	}
	return l
}

// DOC.md's examples of the whole, their schemes laid as codes.
func TestExamplesOfTheWhole(t *testing.T) {
	const letters, gap = `alphabet "ACGT"; match 2; mismatch -3;`, " gap 4, 1;"
	for _, x := range []struct {
		scheme, x, y string
		score, i, j  int
		columns      string
	}{
		{gap + " mode global;", "ACGT", "ACGT", 8, 0, 0, "MMMM"},
		{gap + " mode global;", "ACGT", "AGT", 1, 0, 0, "MDMM"},
		{gap + " mode global;", "ACGT", "", -8, 0, 0, "DDDD"},
		{gap + " mode global;", "", "", 0, 0, 0, ""},
		{gap + " mode local;", "AAACGTAAA", "TTCGTTT", 6, 3, 2, "MMM"},
		{gap + " mode fit;", "TTACGTTT", "ACG", 6, 2, 0, "MMM"},
		{gap + " mode extend; clip 0, 5;", "ACGA", "ACGT", 3, 0, 0, "MMMM"},
		{" gap 1, 3; gap 10, 0; mode global;", "ACG", "", -10, 0, 0, "DDD"},
		{" gap 1, 3; gap 10, 0; mode global;", "", "ACGT", -10, 0, 0, "IIII"},
	} {
		r := lowered(t, letters+x.scheme)
		said(t, r, seq(x.x), seq(x.y))
		numbers, _ := check.Values(r.Defs...)
		tells(t, x.scheme, laid(r, numbers), seq(x.x), seq(x.y), x.score, x.i, x.j, x.columns)
	}
	r := lowered(t, letters+gap+" mode global; band 0 .. 0;")
	numbers, _ := check.Values(r.Defs...)
	tellsNone(t, "the band 0 .. 0", laid(r, numbers), seq("ACGT"), seq("AGT"))
}

// Schemes of several pieces, over sequences of some length.
func TestSchemes(t *testing.T) {
	for _, scheme := range []string{
		`gap 4, 1; mode global;`, `gap 0, 1; mode global;`, `gap 0, 0; mode global;`, `gap 1, 3; gap 4, 1; gap 10, 0; mode global;`, `gap 3, 1; gap 3, 1; mode local;`,
		`gap 1, 1; mode fit;`, `gap 2, 0; gap 0, 2; mode local; clip 1, 2;`, `gap 2, 1; gap 0, 2; mode extend; clip 0, 3; band -5 .. 6;`, `mode local;`,
	} {
		r := lowered(t, `alphabet "AC"; match 1; mismatch -1; `+scheme)
		for seed := range uint64(60) {
			m := newMaker(seed)
			said(t, r, m.letters(2, m.IntN(60)), m.letters(2, m.IntN(60)))
		}
	}
}

// The code's arrows may stand in another order: the path is the same.
func TestOrderOfArrows(t *testing.T) {
	for seed := range uint64(2000) {
		c, x, y := made(seed)
		f, e := trace.Walk(ran(t, c, x, y))
		m := newMaker(seed)
		for range 3 {
			m.Shuffle(len(c.Arrows), func(i, j int) { c.Arrows[i], c.Arrows[j] = c.Arrows[j], c.Arrows[i] })
			if f2, e2 := trace.Walk(ran(t, c, x, y)); f2 != f || e2 != e {
				t.Fatalf("R1: %+v, %v, %v: %+v, %v, and %+v, %v", c, x, y, f, e, f2, e2)
			}
		}
	}
}

// A walk changes nothing of its table, and hangs on it alone, though several go at once (R5, R6).
func TestTablesStay(t *testing.T) {
	for seed := range uint64(500) {
		c, x, y := made(seed)
		r, same := ran(t, c, x, y), ran(t, c, x, y)
		want, e := trace.Walk(r)
		var all sync.WaitGroup
		var found [4]api.Found
		for k := range found {
			all.Go(func() { found[k], _ = trace.Walk(r) })
		}
		all.Wait()
		if again, e2 := trace.Walk(r); again != want || e2 != e || found != [4]api.Found{want, want, want, want} {
			t.Fatalf("R6: %+v, %v, %v: %+v, %+v, %+v", c, x, y, want, again, found)
		}
		if !reflect.DeepEqual(r, same) {
			t.Fatalf("R5: %+v, %v, %v: the table has changed", c, x, y)
		}
	}
}
