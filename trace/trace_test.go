package trace_test

import (
	"math"
	"slices"
	"strconv"
	"strings"
	"testing"

	"helix/api"
	"helix/code"
	"helix/machine"
	"helix/trace"
	"helix/verify"
)

// cell reads instructions as chapter 15 lists them, with `;` between them.
func cell(t *testing.T, text string) []api.Instr {
	t.Helper()
	ops := map[string]int{"none": 1, "start": 2, "load": 3, "add": 4, "table": 5, "meet": 6, "keep": 7, "end": 8}
	words := map[string]int{"any": 0, "row": 1, "column": 2, "corner": 3, "here": 0, "M": 1, "D": 2, "I": 3}
	var l []api.Instr
	for line := range strings.SplitSeq(text, ";") {
		f := strings.Fields(line)
		if len(f) == 0 {
			continue
		}
		var n [3]int
		for k, w := range f[1:] {
			if word, is := words[w]; is {
				n[k] = word
				continue
			}
			n[k], _ = strconv.Atoi(strings.TrimLeft(w, "rpcb"))
		}
		l = append(l, api.Instr{Op: ops[f[0]], A: n[0], B: n[1], C: n[2]})
	}
	if s, e := code.List(api.Code{Letters: 2, Planes: 1, Regs: 1, Table: make([]int, 4), Cell: l}); e != api.OK || strings.Join(strings.Fields(s), " ") != strings.Join(strings.Fields(strings.ReplaceAll(text, ";", " ")), " ") {
		t.Fatalf("the test's own instructions: %q, read as %q", text, s)
	}
	return l
}

// example is chapter 16's code E.
func example(t *testing.T) api.Code {
	t.Helper()
	return api.Code{
		Letters: 2, Planes: 2, Regs: 2, Most: 5, Table: []int{1, -1, -1, 1}, Consts: []int{0},
		Arrows: []api.Arrow{{Plane: 1, Bit: 0, From: 0, Step: api.StepM}, {Plane: 1, Bit: 1, From: 1, Step: api.StepM}},
		Cell: cell(t, `start r0 c0 corner; keep p0 r0; none r0; load r1 p0 M; meet r0 r1 b0;
			load r1 p1 M; meet r0 r1 b1; table r0; keep p1 r0; end p1 c0 corner`),
	}
}

// drawn is a code of planes that are drawn by their ways: `1: 0M 2D+7 1I@15` says that plane 1 comes from plane 0 by M, from plane 2 by D with 7 added, from itself by I, which is bit 15 (else a way's bit is its place there). A cell's planes are kept in the order of the lines. Plane 0 starts, with 0, where it is said; the rest of the text are instructions behind all planes. The constants are -9 to 9, so that c9 is 0.
func drawn(t *testing.T, start, planes, rest string) api.Code {
	t.Helper()
	c := api.Code{Letters: 2, Planes: 1, Regs: 2, Lo: -65537, Hi: 65537, Most: 65536, Table: make([]int, 4)}
	for n := -9; n <= 9; n++ {
		c.Consts = append(c.Consts, n)
	}
	text := "start r0 c9 " + start + "; keep p0 r0;"
	for line := range strings.SplitSeq(planes, "\n") {
		f := strings.Fields(strings.ReplaceAll(line, ":", " "))
		if len(f) == 0 {
			continue
		}
		text += "none r0;"
		for k, way := range f[1:] {
			way, bit, is := strings.Cut(way, "@")
			if !is {
				bit = strconv.Itoa(k)
			}
			way, added, _ := strings.Cut(way, "+")
			from, step := way[:len(way)-1], way[len(way)-1:]
			n, _ := strconv.Atoi(added)
			text += "load r1 p" + from + " " + step + "; add r1 c" + strconv.Itoa(n+9) + "; meet r0 r1 b" + bit + ";"
			a := api.Arrow{Step: 1 + strings.Index("MDI", step)}
			a.Plane, _ = strconv.Atoi(f[0])
			a.Bit, _ = strconv.Atoi(bit)
			a.From, _ = strconv.Atoi(from)
			c.Arrows = append(c.Arrows, a)
		}
		text += "keep p" + f[0] + " r0;"
		c.Planes++
	}
	c.Cell = cell(t, text+rest)
	return c
}

// ran is a table of a run that must be taken.
func ran(t *testing.T, c api.Code, x, y []int) *machine.Table {
	t.Helper()
	r, e := machine.Run(c, x, y)
	if r == nil || e != api.OK {
		at, wrong := verify.Check(c)
		t.Fatalf("Run(%+v, %v, %v): %v (verify: %d, %v)", c, x, y, e, at, wrong)
	}
	return r
}

// tells holds Walk to a score and a path, whatever the order of the code's arrows is.
func tells(t *testing.T, what string, c api.Code, x, y []int, score, i, j int, columns string) {
	t.Helper()
	want := api.Found{Score: score, Path: api.Path{I: i, J: j, Columns: columns}}
	for range 2 {
		if f, e := trace.Walk(ran(t, c, x, y)); f != want || e != api.OK {
			t.Errorf("R1: %s: %+v, %v, not %+v", what, f, e, want)
		}
		c.Arrows = slices.Clone(c.Arrows)
		slices.Reverse(c.Arrows)
	}
}

// tellsOf is tells of so many letters, all of them 0.
func tellsOf(t *testing.T, what string, c api.Code, rows, columns, score, i, j int, path string) {
	t.Helper()
	tells(t, what, c, make([]int, rows), make([]int, columns), score, i, j, path)
}

// tellsNone holds Walk to ErrNoAlignment.
func tellsNone(t *testing.T, what string, c api.Code, x, y []int) {
	t.Helper()
	if f, e := trace.Walk(ran(t, c, x, y)); f != (api.Found{}) || e != api.ErrNoAlignment {
		t.Errorf("R1: %s: %+v, %v, not ErrNoAlignment", what, f, e)
	}
}

// Example 1.
func TestExample(t *testing.T) {
	tells(t, "E", example(t), []int{0, 1}, []int{0, 1}, 2, 0, 0, "MM")
	tells(t, "E, two unlike letters", example(t), []int{0, 1, 0}, []int{0, 0, 1}, -1, 0, 0, "MMM")
	tellsNone(t, "E, off the band", example(t), []int{0}, []int{0, 1})
	tellsNone(t, "E, of no letters", example(t), nil, nil)
}

// Example 2.
func TestExampleOfAStartThatEnds(t *testing.T) {
	c := example(t)
	c.Cell[9] = api.Instr{Op: api.OpEnd, A: 0, B: 0, C: api.WhereCorner}
	tells(t, "E with plane 0's end", c, nil, nil, 0, 0, 0, "")
	tellsNone(t, "E with plane 0's end, of letters", c, []int{0}, []int{0})
	c.Cell[9].C = api.WhereAny
	tells(t, "E with plane 0's end anywhere", c, []int{0}, []int{0}, 0, 0, 0, "")
}

// Example 3, and where paths end that are none: bytes of any kind, and sums that wrap round.
func TestEnd(t *testing.T) {
	for _, x := range []struct {
		i, j    int
		columns string
		a, b    int
	}{
		{2, 3, "MDDI", 5, 5},
		{0, 0, "", 0, 0},
		{7, 9, "", 7, 9},
		{0, 0, "M", 1, 1},
		{0, 0, "D", 1, 0},
		{0, 0, "I", 0, 1},
		{0, 0, "IIIMMDIM", 4, 7},
		{1, 2, "mdi=XS NHPmMdDiI\x00\n", 3, 4},
		{1, 2, "M\x80\xffD\xc4I\xe2\x88", 3, 4},
		{1, 2, "ΜМＭ𝐌ДD", 2, 2},
		{-5, -9, "MMD", -2, -7},
		{-3, 4, strings.Repeat("M", 3), 0, 7},
		{math.MaxInt, 0, "D", math.MinInt, 0},
		{0, math.MaxInt, "I", 0, math.MinInt},
		{math.MaxInt, math.MaxInt - 1, "MDIM", math.MinInt + 2, math.MinInt + 1},
		{math.MinInt, math.MinInt, "MI", math.MinInt + 1, math.MinInt + 2},
		{3, 5, strings.Repeat("MDI", 100000), 200003, 200005},
	} {
		if a, b := trace.End(api.Path{I: x.i, J: x.j, Columns: x.columns}); a != x.a || b != x.b {
			t.Errorf("R2: (%d, %d) by %.20q: (%d, %d), not (%d, %d)", x.i, x.j, x.columns, a, b, x.a, x.b)
		}
	}
}

// Every byte but three counts for nothing.
func TestEndOfEachByte(t *testing.T) {
	steps := map[byte][2]int{'M': {1, 1}, 'D': {1, 0}, 'I': {0, 1}}
	for b := range 256 {
		want := steps[byte(b)]
		if i, j := trace.End(api.Path{Columns: string([]byte{byte(b)})}); i != want[0] || j != want[1] {
			t.Errorf("R2: the byte %d: (%d, %d)", b, i, j)
		}
		if i, j := trace.End(api.Path{I: 3, J: 4, Columns: string([]byte{'D', byte(b), 'D', 'M'})}); i != 6+want[0] || j != 5+want[1] {
			t.Errorf("R2: the byte %d among others: (%d, %d)", b, i, j)
		}
	}
}

// The score is Best's, with the end's constant, and the path ends at Best's cell.
func TestScoreAndCell(t *testing.T) {
	const planes = "1: 0M+3 1M+3"
	tellsOf(t, "an end of -2", drawn(t, "corner", planes, "end p1 c7 corner"), 3, 3, 7, 0, 0, "MMM")
	tellsOf(t, "an end of 9", drawn(t, "corner", planes, "end p1 c18 corner"), 3, 3, 18, 0, 0, "MMM")
	tellsOf(t, "an end at any cell", drawn(t, "corner", planes, "end p1 c9 any"), 3, 5, 9, 0, 0, "MMM")
	tellsOf(t, "an end at any cell, less with each", drawn(t, "corner", "1: 0M+-1 1M+-1", "end p1 c9 any"), 3, 5, -1, 0, 0, "M")
	tellsOf(t, "from a row", drawn(t, "row", planes, "end p1 c9 any"), 2, 5, 6, 0, 0, "MM")
	tellsOf(t, "from a row to the last column", drawn(t, "row", planes, "end p1 c9 column"), 2, 5, 6, 0, 3, "MM")
	tellsOf(t, "from a column to the last row", drawn(t, "column", planes, "end p1 c9 row"), 5, 2, 6, 3, 0, "MM")
}

// Where no end is met, or the band lets no path through, there is none.
func TestNoAlignment(t *testing.T) {
	tellsNone(t, "no end", drawn(t, "any", "1: 0M 1M", ""), make([]int, 3), make([]int, 3))
	tellsNone(t, "an end that is not met", drawn(t, "corner", "1: 0M 1M", "end p1 c9 corner"), make([]int, 3), make([]int, 2))
	tellsNone(t, "a plane that is never come to", drawn(t, "any", "1: 1M 2D\n2: 1I", "end p1 c9 any; end p2 c9 any"), make([]int, 3), make([]int, 3))
	c := drawn(t, "corner", "1: 0D 1D 1I 0I", "end p1 c9 corner")
	tellsOf(t, "the whole band", c, 2, 2, 0, 0, 0, "IIDD")
	c.Lo, c.Hi = 0, 1
	tellsOf(t, "the band 0 .. 1", c, 2, 2, 0, 0, 0, "IDID")
	c.Lo, c.Hi = -1, 0
	tellsOf(t, "the band -1 .. 0", c, 2, 2, 0, 0, 0, "DIDI")
	c.Lo, c.Hi = 0, 0
	tellsNone(t, "the band 0 .. 0", c, make([]int, 2), make([]int, 2))
}
