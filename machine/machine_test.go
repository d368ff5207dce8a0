package machine_test

import (
	"slices"
	"strconv"
	"strings"
	"testing"

	"helix/api"
	"helix/code"
	"helix/machine"
	"helix/verify"
)

// cell reads instructions as chapter 15 lists them, with `;` between them.
func cell(t *testing.T, text string) []api.Instr {
	t.Helper()
	ops := map[string]int{"none": 1, "start": 2, "load": 3, "add": 4, "table": 5, "meet": 6, "keep": 7, "end": 8}
	words := map[string]int{"any": 0, "row": 1, "column": 2, "corner": 3, "here": 0, "M": 1, "D": 2, "I": 3}
	var l []api.Instr
	for line := range strings.SplitSeq(text, ";") {
		f := strings.Fields(line)
		if len(f) == 0 {
			continue
		}
		var n [3]int
		for k, w := range f[1:] {
			if word, is := words[w]; is {
				n[k] = word
				continue
			}
			n[k], _ = strconv.Atoi(strings.TrimLeft(w, "rpcb"))
		}
		l = append(l, api.Instr{Op: ops[f[0]], A: n[0], B: n[1], C: n[2]})
	}
	if s, e := code.List(api.Code{Letters: 2, Planes: 1, Regs: 1, Table: make([]int, 4), Cell: l}); e != api.OK || strings.Join(strings.Fields(s), " ") != strings.Join(strings.Fields(strings.ReplaceAll(text, ";", " ")), " ") {
		t.Fatalf("the test's own instructions: %q, read as %q", text, s)
	}
	return l
}

// arrow is of a plane and a bit, from a plane by a step.
func arrow(plane, bit, from, step int) api.Arrow {
	return api.Arrow{Plane: plane, Bit: bit, From: from, Step: step}
}

// example is chapter 16's code E.
func example(t *testing.T) api.Code {
	t.Helper()
	return api.Code{
		Letters: 2, Planes: 2, Regs: 2, Most: 5, Table: []int{1, -1, -1, 1}, Consts: []int{0},
		Arrows: []api.Arrow{arrow(1, 0, 0, api.StepM), arrow(1, 1, 1, api.StepM)},
		Cell: cell(t, `start r0 c0 corner; keep p0 r0; none r0; load r1 p0 M; meet r0 r1 b0;
			load r1 p1 M; meet r0 r1 b1; table r0; keep p1 r0; end p1 c0 corner`),
	}
}

// ran is a table of a run that must be taken, and that says what the plain reading says.
func ran(t *testing.T, c api.Code, x, y []int) *machine.Table {
	t.Helper()
	r, e := machine.Run(c, x, y)
	if r == nil || e != api.OK {
		at, wrong := verify.Check(c)
		t.Fatalf("M1: Run(%+v, %v, %v): %v (verify: %d, %v)", c, x, y, e, at, wrong)
	}
	held(t, r, plainRun(c, x, y))
	return r
}

// held holds all that a table tells to the plain reading.
func held(t *testing.T, r *machine.Table, p *plain) {
	t.Helper()
	if n, m := r.Size(); n != len(p.x) || m != len(p.y) || r.Planes() != p.Code.Planes {
		t.Fatalf("M2: %+v: Size %d, %d, %d planes", p.Code, n, m, r.Planes())
	}
	if l := r.Arrows(); !slices.Equal(l, p.Code.Arrows) {
		t.Fatalf("M2: %+v: Arrows %v", p.Code, l)
	}
	if n := r.Steps(); n != p.cells()*len(p.Cell) {
		t.Fatalf("M4: %+v: Steps %d, of %d cells", p.Code, n, p.cells())
	}
	for plane := -1; plane <= p.Code.Planes; plane++ {
		for i := -1; i <= len(p.x)+1; i++ {
			for j := -1; j <= len(p.y)+1; j++ {
				has(t, r, p, plane, i, j)
			}
		}
	}
	score, i, j, planes, ok := r.Best()
	score2, i2, j2, planes2, ok2 := p.best()
	if score != score2 || i != i2 || j != j2 || !slices.Equal(planes, planes2) || ok != ok2 {
		t.Fatalf("M3: %+v, %v, %v: Best %d, %d, %d, %v, %v, not %d, %d, %d, %v, %v", p.Code, p.x, p.y, score, i, j, planes, ok, score2, i2, j2, planes2, ok2)
	}
}

// has holds what a plane has at a cell to the plain reading.
func has(t *testing.T, r *machine.Table, p *plain, plane, i, j int) {
	t.Helper()
	want := p.planesAt(i, j)[plane]
	n, is := r.Value(plane, i, j)
	mask := r.Mask(plane, i, j)
	switch {
	case want.n == nil && (is || n != 0 || mask != 0), want.n != nil && (!is || int64(n) != want.n.Int64() || !want.n.IsInt64() || mask != want.mask):
		t.Fatalf("M2: %+v, %v, %v: plane %d at (%d, %d): %d, %v, %b, not %v, %b", p.Code, p.x, p.y, plane, i, j, n, is, mask, want.n, want.mask)
	}
}

// grid writes what a plane has at all cells: rows with `/` between them, `.` for nothing, behind `:` a mask that is not 0.
func grid(r *machine.Table, plane int) string {
	rows, columns := r.Size()
	var lines []string
	for i := range rows + 1 {
		var line []string
		for j := range columns + 1 {
			s := "."
			if n, has := r.Value(plane, i, j); has {
				s = strconv.Itoa(n)
			}
			if mask := r.Mask(plane, i, j); mask != 0 {
				s += ":" + strconv.Itoa(mask)
			}
			line = append(line, s)
		}
		lines = append(lines, strings.Join(line, " "))
	}
	return strings.Join(lines, " / ")
}

// looks holds a plane to its grid.
func looks(t *testing.T, what string, r *machine.Table, plane int, want string) {
	t.Helper()
	if s := grid(r, plane); s != want {
		t.Errorf("%s: plane %d:\n%s, not\n%s", what, plane, s, want)
	}
}

// best holds Best to an end.
func best(t *testing.T, what string, r *machine.Table, score, i, j int, planes ...int) {
	t.Helper()
	if s, a, b, l, ok := r.Best(); s != score || a != i || b != j || !slices.Equal(l, planes) || !ok {
		t.Errorf("M3: %s: Best %d, (%d, %d), %v, %v, not %d, (%d, %d), %v", what, s, a, b, l, ok, score, i, j, planes)
	}
}

// noBest holds Best to none.
func noBest(t *testing.T, what string, r *machine.Table) {
	t.Helper()
	if s, i, j, l, ok := r.Best(); s != 0 || i != 0 || j != 0 || len(l) != 0 || ok {
		t.Errorf("M3: %s: Best %d, (%d, %d), %v, %v, not none", what, s, i, j, l, ok)
	}
}

// fails holds Run to an error, and to no table.
func fails(t *testing.T, what string, c api.Code, x, y []int, e api.Errno) {
	t.Helper()
	if r, got := machine.Run(c, x, y); r != nil || got != e {
		t.Errorf("M1: %s: %v, %v, not %v", what, r, got, e)
	}
}

// Example 1.
func TestExample(t *testing.T) {
	r := ran(t, example(t), []int{0, 1}, []int{0, 1})
	if n, m := r.Size(); n != 2 || m != 2 {
		t.Error("M2: Size", n, m)
	}
	if r.Planes() != 2 || r.Steps() != 30 || !slices.Equal(r.Arrows(), []api.Arrow{arrow(1, 0, 0, 1), arrow(1, 1, 1, 1)}) {
		t.Error("M2, M4:", r.Planes(), r.Steps(), r.Arrows())
	}
	looks(t, "E", r, 0, "0 . . / . . . / . . .")
	looks(t, "E", r, 1, ". . . / . 1:1 . / . . 2:2")
	best(t, "E", r, 2, 2, 2, 1)
}

// Example 2.
func TestExampleWithoutEnds(t *testing.T) {
	noBest(t, "the corner is not run", ran(t, example(t), []int{0}, []int{0, 1}))
	noBest(t, "no letters", ran(t, example(t), nil, nil))
}

// Example 3.
func TestExampleOfErrors(t *testing.T) {
	e := example(t)
	fails(t, "six noughts, none", e, make([]int, 6), nil, api.ErrTooLong)
	fails(t, "2, none", e, []int{2}, nil, api.ErrSymbol)
	fails(t, "-1, none", e, []int{-1}, nil, api.ErrSymbol)
	e.Cell[8].B = 1
	fails(t, "keep p1 r1 at 8", e, nil, nil, api.ErrVerifyWay)
}

// Each of verify's errors is told, ahead of all others.
func TestErrorsOfVerify(t *testing.T) {
	for _, x := range []struct {
		what string
		turn func(c *api.Code)
		e    api.Errno
	}{
		{"no plane", func(c *api.Code) { c.Planes = 0 }, api.ErrVerifyForm},
		{"Lo above Hi", func(c *api.Code) { c.Lo = 1 }, api.ErrVerifyForm},
		{"an Op 9", func(c *api.Code) { c.Cell[9].Op = 9 }, api.ErrVerifyForm},
		{"an Op 0", func(c *api.Code) { c.Cell[9].Op = 0 }, api.ErrVerifyForm},
		{"a short table", func(c *api.Code) { c.Table = c.Table[:3] }, api.ErrVerifyForm},
		{"a wrong arrow", func(c *api.Code) { c.Arrows[0].Step = 0 }, api.ErrVerifyWay},
		{"another way", func(c *api.Code) { c.Cell[4].C = 1 }, api.ErrVerifyWay},
		{"no such register", func(c *api.Code) { c.Cell[2].A = 2 }, api.ErrVerifyRef},
		{"no such constant", func(c *api.Code) { c.Consts = nil }, api.ErrVerifyRef},
		{"not written", func(c *api.Code) { c.Cell = c.Cell[1:] }, api.ErrVerifyUse},
		{"kept twice", func(c *api.Code) { c.Cell[8].A = 0 }, api.ErrVerifyStore},
		{"never kept", func(c *api.Code) { c.Cell = c.Cell[:8] }, api.ErrVerifyStore},
		{"no instructions", func(c *api.Code) { c.Cell = nil }, api.ErrVerifyStore},
		{"wide", func(c *api.Code) { c.Table[3] = 1 << 58 }, api.ErrVerifyWide},
	} {
		c := example(t)
		x.turn(&c)
		fails(t, x.what, c, nil, nil, x.e)
		fails(t, x.what+", too long", c, make([]int, 6), nil, x.e)
		fails(t, x.what+", a wrong letter", c, nil, []int{2}, x.e)
		fails(t, x.what+", too many cells", c, make([]int, 1024), make([]int, 1024), x.e)
	}
	fails(t, "nothing", api.Code{}, nil, nil, api.ErrVerifyForm)
}

// How long sequences may be, and that this is asked ahead of letters and cells.
func TestTooLong(t *testing.T) {
	c := example(t)
	for _, most := range []int{0, 1, 2, 5, 100} {
		c.Most = most
		at, past := make([]int, most), make([]int, most+1)
		ran(t, c, at, at)
		ran(t, c, at, nil)
		fails(t, "x", c, past, nil, api.ErrTooLong)
		fails(t, "y", c, nil, past, api.ErrTooLong)
		fails(t, "both", c, past, past, api.ErrTooLong)
		past[0] = 2
		fails(t, "x and letters", c, past, nil, api.ErrTooLong)
		fails(t, "y and letters", c, []int{-1}, past, api.ErrTooLong)
	}
	c.Most = 1100
	fails(t, "x and cells", c, make([]int, 1101), make([]int, 1100), api.ErrTooLong)
	fails(t, "y and cells", c, make([]int, 1100), make([]int, 1101), api.ErrTooLong)
	c.Most = 65536
	fails(t, "past 65536", c, make([]int, 65537), nil, api.ErrTooLong)
	fails(t, "past 65536", c, nil, make([]int, 65537), api.ErrTooLong)
}

// Which letters there are, in either sequence, at any place, and that this is asked ahead of cells.
func TestSymbols(t *testing.T) {
	for _, letters := range []int{2, 3, 20} {
		c := example(t)
		c.Letters, c.Table = letters, make([]int, letters*letters)
		for _, n := range []int{0, 1, letters - 1, letters, letters + 1, -1, 1 << 62, -1 << 63, 1<<63 - 1} {
			for at := range 5 {
				wrong, good := make([]int, 5), []int{0, 1, 0, 1, 0}
				wrong[at] = n
				if n >= 0 && n < letters {
					ran(t, c, wrong, good)
					ran(t, c, good, wrong)
					continue
				}
				fails(t, "x", c, wrong, good, api.ErrSymbol)
				fails(t, "x alone", c, wrong, nil, api.ErrSymbol)
				fails(t, "y", c, good, wrong, api.ErrSymbol)
				fails(t, "y alone", c, nil, wrong, api.ErrSymbol)
			}
		}
	}
	c := example(t)
	c.Most = 65536
	many := make([]int, 1100)
	many[1099] = 2
	fails(t, "x and cells", c, many, make([]int, 1100), api.ErrSymbol)
	fails(t, "y and cells", c, make([]int, 1100), many, api.ErrSymbol)
}

// How many cells there may be, run or not.
func TestCells(t *testing.T) {
	c := example(t)
	c.Most = 65536
	for _, band := range [][2]int{{0, 0}, {-65537, 65537}, {65537, 65537}} {
		c.Lo, c.Hi = band[0], band[1]
		for _, size := range [][2]int{{1023, 1024}, {1024, 1023}, {16, 61680}, {61680, 16}, {65536, 15}, {15, 65536}, {524288 / 16, 32}, {65536, 65536}} {
			fails(t, "too many", c, make([]int, size[0]), make([]int, size[1]), api.ErrCells)
		}
		for _, size := range [][2]int{{1023, 1023}, {65535, 15}, {15, 65535}, {65536, 14}, {0, 65536}, {65536, 0}, {32767, 31}} {
			r, e := machine.Run(c, make([]int, size[0]), make([]int, size[1]))
			if r == nil || e != api.OK {
				t.Fatal("M1: not too many", size, e)
			}
			if n, m := r.Size(); n != size[0] || m != size[1] {
				t.Error("M2: Size", size, n, m)
			}
		}
	}
	c.Lo, c.Hi = -65537, 65537
	r, _ := machine.Run(c, make([]int, 1023), make([]int, 1023))
	best(t, "1023 matches", r, 1023, 1023, 1023, 1)
	if r.Steps() != 10485760 {
		t.Error("M4: Steps", r.Steps())
	}
}
