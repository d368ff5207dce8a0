package verify_test

import (
	"slices"
	"strconv"
	"strings"
	"testing"

	"helix/api"
	"helix/code"
	"helix/verify"
)

// cell reads instructions as chapter 15 lists them, with a line feed or `;` between them.
func cell(t *testing.T, text string) []api.Instr {
	t.Helper()
	ops := map[string]int{"none": 1, "start": 2, "load": 3, "add": 4, "table": 5, "meet": 6, "keep": 7, "end": 8}
	words := map[string]int{"any": 0, "row": 1, "column": 2, "corner": 3, "here": 0, "M": 1, "D": 2, "I": 3}
	var l []api.Instr
	for line := range strings.SplitSeq(text, ";") {
		f := strings.Fields(line)
		if len(f) == 0 {
			continue
		}
		var n [3]int
		for k, w := range f[1:] {
			if word, is := words[w]; is {
				n[k] = word
				continue
			}
			n[k], _ = strconv.Atoi(strings.TrimLeft(w, "rpcb"))
		}
		l = append(l, api.Instr{Op: ops[f[0]], A: n[0], B: n[1], C: n[2]})
	}
	if s, e := code.List(api.Code{Letters: 2, Planes: 1, Regs: 1, Table: make([]int, 4), Cell: l}); e != api.OK || strings.Join(strings.Fields(s), " ") != strings.Join(strings.Fields(strings.ReplaceAll(text, ";", " ")), " ") {
		t.Fatalf("the test's own instructions: %q, read as %q", text, s)
	}
	return l
}

// example is the chapter's code E.
func example(t *testing.T) api.Code {
	t.Helper()
	return api.Code{
		Letters: 2, Planes: 2, Regs: 2, Most: 5, Table: []int{1, -1, -1, 1}, Consts: []int{0},
		Arrows: []api.Arrow{{Plane: 1, Bit: 0, From: 0, Step: api.StepM}, {Plane: 1, Bit: 1, From: 1, Step: api.StepM}},
		Cell: cell(t, `start r0 c0 corner; keep p0 r0; none r0; load r1 p0 M; meet r0 r1 b0;
			load r1 p1 M; meet r0 r1 b1; table r0; keep p1 r0; end p1 c0 corner`),
	}
}

// tells holds Check to an answer, and the plain reading too.
func tells(t *testing.T, what string, c api.Code, at int, e api.Errno) {
	t.Helper()
	if k, got := plainCheck(c); k != at || got != e {
		t.Errorf("%s: the plain reading: %d, %v, not %d, %v", what, k, got, at, e)
	}
	if k, got := verify.Check(c); k != at || got != e {
		t.Errorf("V1: %s: %d, %v, not %d, %v", what, k, got, at, e)
	}
}

// uses holds Used to an answer, and the plain reading too.
func uses(t *testing.T, c api.Code, at int, want []int, e api.Errno) {
	t.Helper()
	if l, got := plainUsed(c, at); !slices.Equal(l, want) || got != e {
		t.Errorf("the plain reading: %d: %v, %v, not %v, %v", at, l, got, want, e)
	}
	if l, got := verify.Used(c, at); !slices.Equal(l, want) || got != e {
		t.Errorf("V2: Used(%d): %v, %v, not %v, %v", at, l, got, want, e)
	}
}

// Example 1.
func TestExample(t *testing.T) {
	e := example(t)
	tells(t, "E", e, -1, api.OK)
	uses(t, e, 2, []int{0}, api.OK)
	uses(t, e, 4, []int{0, 1}, api.OK)
	uses(t, e, 11, nil, api.ErrArg)
}

// Examples 2 and 4.
func TestExampleOfWrongs(t *testing.T) {
	for _, x := range []struct {
		what string
		turn func(c *api.Code)
		at   int
		e    api.Errno
	}{
		{"keep p1 r1 at 8", func(c *api.Code) { c.Cell[8].B = 1 }, 8, api.ErrVerifyWay},
		{"bit 1 at 4", func(c *api.Code) { c.Cell[4].C = 1 }, 8, api.ErrVerifyWay},
		{"r2 at 2", func(c *api.Code) { c.Cell[2].A = 2 }, 2, api.ErrVerifyRef},
		{"without 0", func(c *api.Code) { c.Cell = c.Cell[1:] }, 0, api.ErrVerifyUse},
		{"keep p0 r0 at 8", func(c *api.Code) { c.Cell[8].A = 0 }, 8, api.ErrVerifyStore},
		{"without 8 and 9", func(c *api.Code) { c.Cell = c.Cell[:8] }, -1, api.ErrVerifyStore},
		{"C 1 at 7", func(c *api.Code) { c.Cell[7].C = 1 }, 7, api.ErrVerifyRef},
		{"the arrow (1, 0, 0, 0)", func(c *api.Code) { c.Arrows[0].Step = 0 }, -1, api.ErrVerifyWay},
		{"the arrow (0, 0, 0, M)", func(c *api.Code) { c.Arrows[0].Plane = 0 }, -1, api.ErrVerifyWay},
		{"the arrow (1, 0, 0, M) twice", func(c *api.Code) { c.Arrows = append(c.Arrows, c.Arrows[0]) }, -1, api.ErrVerifyWay},
	} {
		c := example(t)
		x.turn(&c)
		tells(t, x.what, c, x.at, x.e)
	}
}

// Example 3, and the numbers about it, in the table and among the constants, on either side of 0.
func TestExampleOfWide(t *testing.T) {
	const edge = 192153584101141162
	for _, x := range []struct {
		n, most int
		e       api.Errno
	}{
		{1 << 58, 5, api.ErrVerifyWide}, {1 << 58, 0, api.OK}, {1 << 60, 0, api.OK}, {1 << 60, 1, api.ErrVerifyWide},
		{edge, 5, api.OK}, {edge + 1, 5, api.ErrVerifyWide}, {edge, 6, api.ErrVerifyWide}, {edge + 1, 4, api.OK},
	} {
		for _, n := range []int{x.n, -x.n} {
			for k := range 5 {
				c := example(t)
				c.Most = x.most
				if k < 4 {
					c.Table[k] = n
				} else {
					c.Consts[0] = n
				}
				tells(t, strconv.Itoa(n), c, -1, x.e)
			}
		}
	}
}

// A code that is not right is told so ahead of all else.
func TestForm(t *testing.T) {
	for what, turn := range map[string]func(c *api.Code){
		"no plane":             func(c *api.Code) { c.Planes = 0 },
		"17 registers":         func(c *api.Code) { c.Regs = 17 },
		"Lo above Hi":          func(c *api.Code) { c.Lo = 1 },
		"Most -1":              func(c *api.Code) { c.Most = -1 },
		"a short table":        func(c *api.Code) { c.Table = c.Table[:3] },
		"a number too great":   func(c *api.Code) { c.Table[0] = 1<<60 + 1 },
		"a constant too great": func(c *api.Code) { c.Consts[0] = -1<<60 - 1 },
		"no Op":                func(c *api.Code) { c.Cell[9].Op = 0 },
		"an Op 9":              func(c *api.Code) { c.Cell[9].Op = 9 },
		"A -1":                 func(c *api.Code) { c.Cell[9].A = -1 },
		"C 65536":              func(c *api.Code) { c.Cell[9].C = 65536 },
		"an arrow's step -1":   func(c *api.Code) { c.Arrows[1].Step = -1 },
		"161 arrows":           func(c *api.Code) { c.Arrows = make([]api.Arrow, 161) },
	} {
		for _, more := range []func(c *api.Code){func(c *api.Code) {}, func(c *api.Code) { c.Arrows[0].Bit, c.Cell[0].A = 16, 2 }} {
			c := example(t)
			more(&c)
			turn(&c)
			tells(t, what, c, -1, api.ErrVerifyForm)
			uses(t, c, 0, nil, api.ErrVerifyForm)
			uses(t, c, -1, nil, api.ErrVerifyForm)
		}
	}
	tells(t, "no code at all", api.Code{}, -1, api.ErrVerifyForm)
}

// Each field of an arrow, at its edges and past them.
func TestArrows(t *testing.T) {
	for _, f := range []struct {
		what      string
		low, high int
		of        func(a *api.Arrow) *int
	}{
		{"Plane", 1, 2, func(a *api.Arrow) *int { return &a.Plane }},
		{"Bit", 0, 15, func(a *api.Arrow) *int { return &a.Bit }},
		{"From", 0, 2, func(a *api.Arrow) *int { return &a.From }},
		{"Step", 1, 3, func(a *api.Arrow) *int { return &a.Step }},
	} {
		for _, n := range []int{0, 1, 2, 3, 4, 9, 10, 15, 16, 17, 65535} {
			c := example(t)
			c.Planes = 3
			c.Cell = append(c.Cell, cell(t, "none r0; keep p2 r0")...)
			c.Arrows = append(c.Arrows, api.Arrow{Plane: 2, Bit: 7, From: 2, Step: 2})
			*f.of(&c.Arrows[2]) = n
			if n >= f.low && n <= f.high {
				tells(t, f.what, c, -1, api.OK)
			} else {
				tells(t, f.what, c, -1, api.ErrVerifyWay)
			}
		}
	}
	c := example(t)
	c.Arrows = append(c.Arrows, api.Arrow{Plane: 1, Bit: 1, From: 0, Step: 3})
	tells(t, "one plane, one bit, another way", c, -1, api.ErrVerifyWay)
	c.Arrows[2].Bit = 2
	tells(t, "another bit", c, -1, api.OK)
	c.Arrows[2] = api.Arrow{Plane: 1, Bit: 2, From: 1, Step: 1}
	tells(t, "two bits for one way", c, -1, api.OK)
	c.Arrows, c.Cell[0].Op = append(c.Arrows, c.Arrows[0]), 9
	tells(t, "a wrong form ahead of a wrong arrow", c, -1, api.ErrVerifyForm)
}

// As many arrows as may be right: 16 of each of nine planes.
func TestManyArrows(t *testing.T) {
	c := example(t)
	c.Planes, c.Arrows = 10, nil
	c.Cell = cell(t, "start r0 c0 any; keep p0 r0")
	for p := 1; p < 10; p++ {
		c.Cell = append(c.Cell, api.Instr{Op: api.OpNone})
		for b := range 16 {
			a := api.Arrow{Plane: p, Bit: b, From: (p + b) % 10, Step: 1 + b%3}
			c.Arrows = append(c.Arrows, a)
			c.Cell = append(c.Cell, api.Instr{Op: api.OpLoad, A: 1, B: a.From, C: a.Step}, api.Instr{Op: api.OpMeet, B: 1, C: b})
		}
		c.Cell = append(c.Cell, api.Instr{Op: api.OpKeep, A: p})
	}
	tells(t, "144 arrows", c, -1, api.OK)
	last := len(c.Arrows) - 1
	c.Arrows[last].Step = 1 + c.Arrows[last].Step%3
	tells(t, "the last one by another step", c, len(c.Cell)-1, api.ErrVerifyWay)
	c.Arrows = c.Arrows[:last]
	tells(t, "without the last one", c, len(c.Cell)-1, api.ErrVerifyWay)
}

// Each field of each instruction, at its edges and past them.
func TestRef(t *testing.T) {
	const ahead = "none r0; none r1; none r2; keep p0 r0; keep p1 r0"
	for op, f := range map[string][3]int{ // what each must be below
		"none": {3, 1, 1}, "start": {3, 2, 4}, "load": {3, 4, 4}, "add": {3, 2, 1}, "table": {3, 1, 1}, "meet": {3, 3, 16}, "keep": {4, 3, 1}, "end": {4, 2, 4},
	} {
		for field := range 3 {
			for _, n := range []int{0, 1, 2, 3, 4, 5, 9, 10, 15, 16, 17, 65535} {
				c := example(t)
				c.Regs, c.Planes, c.Consts = 3, 4, []int{0, 0}
				c.Cell = cell(t, ahead)
				in := cell(t, op+map[string]string{"none": " r0", "start": " r0 c0 any", "load": " r0 p0 here", "add": " r0 c0", "table": " r0", "meet": " r0 r0 b0", "keep": " p0 r0", "end": " p0 c0 any"}[op])[0]
				*[]*int{&in.A, &in.B, &in.C}[field] = n
				c.Cell = append(c.Cell, in)
				at, e := verify.Check(c)
				if wrong := at == 5 && e == api.ErrVerifyRef; wrong != (n >= f[field]) {
					t.Errorf("V1: %s, field %d, %d: %d, %v", op, field, n, at, e)
				}
			}
		}
	}
	c := example(t)
	c.Consts = nil
	tells(t, "no constant", c, 0, api.ErrVerifyRef)
	c = example(t)
	c.Consts = make([]int, 100)
	c.Cell[0].B = 99
	tells(t, "the last constant", c, -1, api.OK)
	c.Cell[0].B = 100
	tells(t, "one past it", c, 0, api.ErrVerifyRef)
}

// What reads, behind what writes and what does not, each alone.
func TestUse(t *testing.T) {
	for _, x := range []struct {
		text string
		at   int
		e    api.Errno
	}{
		{"add r0 c0", 0, api.ErrVerifyUse},
		{"table r0", 0, api.ErrVerifyUse},
		{"none r1; add r0 c0", 1, api.ErrVerifyUse},
		{"none r1; table r0", 1, api.ErrVerifyUse},
		{"none r1; meet r0 r1 b0", 1, api.ErrVerifyUse},
		{"none r1; meet r1 r0 b0", 1, api.ErrVerifyUse},
		{"meet r0 r0 b0", 0, api.ErrVerifyUse},
		{"none r1; keep p0 r0", 1, api.ErrVerifyUse},
		{"none r0; keep p1 r0; end p0 c0 any", 2, api.ErrVerifyUse},
		{"end p0 c0 any; none r0; keep p0 r0", 0, api.ErrVerifyUse},
		{"none r0; keep p1 r0; load r0 p0 here", 2, api.ErrVerifyUse},
		{"load r0 p0 here", 0, api.ErrVerifyUse},
		{"load r0 p0 M; load r0 p0 here", 1, api.ErrVerifyUse},
		{"load r0 p1 M; add r0 c0; load r1 p1 D; table r1; load r0 p1 I; meet r0 r1 b15", -1, api.ErrVerifyStore},
		{"start r0 c0 any; add r0 c0; table r0", -1, api.ErrVerifyStore},
		{"none r0; meet r0 r0 b0", -1, api.ErrVerifyStore},
		{"none r0; keep p1 r0; end p1 c0 any; load r1 p1 here; table r1; end p1 c0 any", -1, api.ErrVerifyStore},
		{"none r0; keep p1 r0; load r1 p1 here; end p1 c0 any; keep p0 r0; end p0 c0 any", -1, api.OK},
	} {
		c := example(t)
		c.Cell = cell(t, x.text)
		tells(t, x.text, c, x.at, x.e)
	}
}

// Which of several wrongs is told: of one instruction the first in V1's order, else that of the first instruction, else what hangs on none.
func TestOrder(t *testing.T) {
	for _, x := range []struct {
		text string
		at   int
		e    api.Errno
	}{
		{"add r2 c0", 0, api.ErrVerifyRef},                                       // not there, not written
		{"end p0 c1 any", 0, api.ErrVerifyRef},                                   // not there, not kept
		{"none r0; keep p0 r0; keep p0 r2", 2, api.ErrVerifyRef},                 // not there, kept ahead
		{"none r0; keep p0 r0; keep p0 r1", 2, api.ErrVerifyUse},                 // not written, kept ahead
		{"keep p0 r1", 0, api.ErrVerifyUse},                                      // not written, not good
		{"none r0; keep p0 r0; load r0 p0 M; keep p0 r0", 3, api.ErrVerifyStore}, // kept ahead, not good
		{"load r0 p0 M; keep p0 r0", 1, api.ErrVerifyWay},
		{"load r0 p0 M; keep p0 r0; none r2", 1, api.ErrVerifyWay}, // the first instruction
		{"table r0; none r2", 0, api.ErrVerifyUse},
		{"none r0; keep p0 r0; keep p0 r0; table r1", 2, api.ErrVerifyStore},
		{"none r2; table r1", 0, api.ErrVerifyRef},
		{"none r0; keep p0 r0; none r2", 2, api.ErrVerifyRef}, // ahead of a plane that is never kept
		{"", -1, api.ErrVerifyStore},
		{"none r0; keep p0 r0", -1, api.ErrVerifyStore},
		{"none r0; keep p1 r0", -1, api.ErrVerifyStore},
		{"none r0; keep p1 r0; keep p0 r0", -1, api.OK},
		{"none r0; keep p1 r0; keep p0 r0; none r0; none r2", 4, api.ErrVerifyRef},
	} {
		for _, wide := range []bool{false, true} {
			c := example(t)
			e := x.e
			c.Cell = cell(t, x.text)
			if wide {
				c.Most, c.Table[0] = 65536, 1<<60
				if e == api.OK {
					e = api.ErrVerifyWide
				}
			}
			tells(t, x.text, c, x.at, e)
			c.Arrows[1].Bit = 16
			tells(t, x.text+", with a wrong arrow", c, -1, api.ErrVerifyWay)
		}
	}
}

// Which OpKeep is good. The arrows are of bits 0 and 1 of plane 1, from 0 and from 1 by M, and of bit 2 from 0 by D.
func TestWay(t *testing.T) {
	const kept = "; none r0; keep p0 r0"
	for _, x := range []struct {
		text string
		at   int
	}{
		// Plane 0.
		{"none r0; keep p0 r0", -1},
		{"start r0 c0 any; keep p0 r0", -1},
		{"load r0 p0 M; keep p0 r0", 1},
		{"load r0 p1 I; none r0; keep p0 r0", -1},
		{"none r0; start r1 c0 row; meet r0 r1 b9; keep p0 r0", -1},
		{"start r0 c0 row; none r1; meet r0 r1 b9; meet r0 r1 b9; keep p0 r0", -1},
		{"start r0 c0 row; load r1 p1 M; meet r0 r1 b1; keep p0 r0", 3},
		{"start r0 c0 row; meet r0 r0 b1; keep p0 r0", -1},
		{"start r0 c0 row; meet r0 r0 b1; meet r0 r0 b1; keep p0 r0", 3},
		{"start r0 c0 row; add r0 c0; table r0; keep p0 r0", -1},
		{"none r0; load r1 p1 M; meet r1 r0 b1; start r1 c0 any; meet r0 r1 b1; keep p0 r0", -1},
		{"none r1; start r0 c0 any; meet r1 r0 b0; none r0; meet r0 r1 b0; keep p0 r0", 5},
		{"none r0; keep p1 r0; load r0 p1 here; keep p0 r0", 3},
		{"none r0; keep p1 r0; load r1 p1 here; meet r0 r1 b0; keep p0 r0", 4},
		// Another plane.
		{"none r0; keep p1 r0" + kept, -1},
		{"start r0 c0 any; keep p1 r0" + kept, 1},
		{"load r0 p0 M; keep p1 r0" + kept, 1},
		{"none r0; load r1 p0 M; meet r0 r1 b0; keep p1 r0" + kept, -1},
		{"none r0; load r1 p0 M; meet r0 r1 b0; meet r0 r1 b0; keep p1 r0" + kept, -1},
		{"none r0; load r1 p0 D; meet r0 r1 b0; keep p1 r0" + kept, 3},
		{"none r0; load r1 p0 I; meet r0 r1 b0; keep p1 r0" + kept, 3},
		{"none r0; load r1 p0 D; meet r0 r1 b2; keep p1 r0" + kept, -1},
		{"none r0; load r1 p1 D; meet r0 r1 b2; keep p1 r0" + kept, 3},
		{"none r0; load r1 p0 M; meet r0 r1 b1; keep p1 r0" + kept, 3},
		{"none r0; load r1 p0 M; meet r0 r1 b3; keep p1 r0" + kept, 3},
		{"none r0; load r1 p0 M; meet r0 r1 b0; load r1 p0 D; meet r0 r1 b0; keep p1 r0" + kept, 5},
		{"none r0; load r1 p0 D; meet r0 r1 b0; load r1 p0 M; meet r0 r1 b0; keep p1 r0" + kept, 5},
		{"none r0; load r1 p0 M; meet r0 r1 b0; load r1 p0 D; meet r0 r1 b2; load r1 p1 M; meet r0 r1 b1; keep p1 r0" + kept, -1},
		{"none r0; none r1; meet r0 r1 b0; keep p1 r0" + kept, 3},
		{"none r0; start r1 c0 any; meet r0 r1 b0; keep p1 r0" + kept, 3},
		{"none r0; meet r0 r0 b0; keep p1 r0" + kept, 2},
		{"load r1 p0 M; none r0; add r1 c0; table r1; meet r0 r1 b0; add r0 c0; table r0; keep p1 r0" + kept, -1},
		{"load r1 p0 M; meet r1 r1 b0; none r0; meet r0 r1 b0; keep p1 r0" + kept, 4},
		{"load r1 p0 M; none r0; meet r1 r0 b0; none r0; meet r0 r1 b0; keep p1 r0" + kept, 5},
		{"load r1 p0 M; none r0; meet r0 r1 b0; meet r1 r0 b0; keep p1 r0" + kept, -1}, // what B becomes later changes nothing
		{"load r1 p0 M; none r0; meet r0 r1 b0; load r1 p1 I; keep p1 r0" + kept, -1},
		{"none r0; load r1 p0 M; meet r0 r1 b3; none r0; keep p1 r0" + kept, -1},                     // written anew: no ways
		{"none r0; load r1 p1 I; meet r1 r0 b3; load r1 p0 M; meet r0 r1 b0; keep p1 r0" + kept, -1}, // fresh again
		{"none r0; keep p0 r0; load r1 p0 here; none r0; meet r0 r1 b0; keep p1 r0", 5},
		{"none r0; keep p0 r0; load r0 p0 here; keep p1 r0", 3},
		// One register for two planes: its ways are of one of them.
		{"none r0; load r1 p0 M; meet r0 r1 b0; keep p1 r0; keep p0 r0", 4},
	} {
		c := example(t)
		c.Arrows = append(c.Arrows, api.Arrow{Plane: 1, Bit: 2, From: 0, Step: 2})
		c.Cell = cell(t, x.text)
		switch {
		case x.at >= 0:
			tells(t, x.text, c, x.at, api.ErrVerifyWay)
		case strings.Contains(x.text, "keep p0") && strings.Contains(x.text, "keep p1"):
			tells(t, x.text, c, -1, api.OK)
		default:
			tells(t, x.text, c, -1, api.ErrVerifyStore)
		}
	}
}

// An arrow of one plane is none of another.
func TestWayOfItsPlane(t *testing.T) {
	c := example(t)
	c.Planes = 3
	c.Cell = cell(t, "start r0 c0 any; keep p0 r0; none r0; load r1 p0 M; meet r0 r1 b0; keep p2 r0; keep p1 r0")
	tells(t, "an arrow of plane 1", c, 5, api.ErrVerifyWay)
	c.Arrows = append(c.Arrows, api.Arrow{Plane: 2, Bit: 0, From: 0, Step: 1})
	tells(t, "one of plane 2 too", c, -1, api.OK)
	c.Arrows[2].From = 2
	tells(t, "from another plane", c, 5, api.ErrVerifyWay)
}

// weighed asks whether a code of one plane comes to the weight W: by the greatest number that it may have.
func weighed(t *testing.T, text string, most, w int) {
	t.Helper()
	edge := (1 << 62) / (2*most + 2) / w
	if edge >= 1<<60 {
		t.Fatal("the test's own weight is too small", text)
	}
	for _, n := range []int{edge, -edge} {
		c := example(t)
		c.Planes, c.Regs, c.Most, c.Arrows, c.Consts = 1, 3, most, nil, []int{0, n}
		c.Cell = cell(t, text)
		tells(t, text, c, -1, api.OK)
		c.Consts[1] += n / edge
		tells(t, text+", one more", c, -1, api.ErrVerifyWide)
	}
}

// W of codes.
func TestWeights(t *testing.T) {
	for text, w := range map[string]int{
		"none r0; keep p0 r0":                                                                  1,
		"start r0 c0 any; keep p0 r0":                                                          1,
		"none r0; add r0 c0; keep p0 r0":                                                       1,
		"none r0; table r0; keep p0 r0":                                                        1,
		"none r0; add r0 c0; table r0; keep p0 r0":                                             2,
		"start r0 c0 any; add r0 c0; table r0; keep p0 r0":                                     3,
		"load r1 p0 M; add r1 c0; add r1 c0; none r0; keep p0 r0":                              2,
		"none r0; keep p0 r0; end p0 c0 any":                                                   1,
		"start r0 c0 any; keep p0 r0; end p0 c0 any":                                           2,
		"start r0 c0 any; keep p0 r0; end p0 c0 any; end p0 c0 any":                            2,
		"start r0 c0 any; add r0 c0; keep p0 r0; end p0 c0 any":                                3,
		"start r0 c0 any; keep p0 r0; add r0 c0; end p0 c0 any":                                2,
		"start r0 c0 any; keep p0 r0; add r0 c0; add r0 c0; end p0 c0 any":                     3,
		"start r0 c0 any; add r0 c0; keep p0 r0; none r0; end p0 c0 any":                       3,
		"start r0 c0 any; keep p0 r0; load r1 p0 here; add r1 c0; add r1 c0":                   3,
		"start r0 c0 any; keep p0 r0; add r0 c0; load r1 p0 here; add r1 c0; table r1":         3,
		"start r0 c0 any; add r0 c0; keep p0 r0; load r1 p0 M; add r1 c0; table r1; add r1 c0": 3,
		"start r0 c0 any; add r0 c0; start r1 c0 any; meet r1 r0 b0; add r1 c0; keep p0 r1":    3,
		"start r0 c0 any; add r0 c0; none r1; meet r0 r1 b0; table r0; keep p0 r0":             3,
		"start r0 c0 any; start r1 c0 any; meet r0 r1 b0; keep p0 r0; end p0 c0 any":           2,
		"start r0 c0 any; meet r0 r0 b0; keep p0 r0; end p0 c0 any":                            2,
		"start r0 c0 any; add r0 c0; add r0 c0; start r0 c0 any; keep p0 r0":                   3,
		"start r0 c0 any; add r0 c0; add r0 c0; none r0; keep p0 r0; end p0 c0 any":            3,
		"none r2; table r2; table r2; table r2; table r2; none r0; keep p0 r0":                 4,
		"none r0; keep p0 r0; none r2; table r2; table r2; table r2":                           3,
	} {
		for _, most := range []int{3, 5, 100, 4095, 65536} {
			weighed(t, text, most, w)
		}
	}
}

// The greatest weight: a thousand instructions, all but the writing one of which add, or keep and end.
func TestHeaviest(t *testing.T) {
	weighed(t, "start r0 c0 any;"+strings.Repeat("table r0;", 997)+"keep p0 r0; end p0 c0 any", 65536, 999)
	weighed(t, "none r0; keep p0 r0; none r0;"+strings.Repeat("add r0 c0;", 997), 65536, 997)
	weighed(t, "start r0 c0 any; keep p0 r0;"+strings.Repeat("load r1 p0 here; add r1 c0; load r0 p0 here; meet r0 r1 b0;", 249)+"end p0 c0 any", 65536, 2)
	weighed(t, "none r0; keep p0 r0; start r1 c0 any; start r2 c0 any;"+strings.Repeat("meet r1 r2 b0; add r1 c0; meet r2 r1 b1; table r2;", 249), 65536, 499)
}

// Used, of registers in any order, of all kinds of instructions, at all places.
func TestUsed(t *testing.T) {
	c := example(t)
	c.Regs = 9
	c.Cell = cell(t, "none r8; start r3 c0 any; load r5 p0 M; load r0 p0 here; add r1 c0; table r2; meet r4 r6 b0; keep p1 r7; end p1 c0 any; none r3; load r9 p0 M; none r15; start r16 c0 any; none r65535; none r4")
	for at, want := range [][]int{
		{}, {8}, {3, 8}, {3, 5, 8}, {0, 3, 5, 8}, {0, 3, 5, 8}, {0, 3, 5, 8}, {0, 3, 5, 8}, {0, 3, 5, 8}, {0, 3, 5, 8}, {0, 3, 5, 8}, {0, 3, 5, 8}, {0, 3, 5, 8}, {0, 3, 5, 8}, {0, 3, 5, 8}, {0, 3, 4, 5, 8},
	} {
		uses(t, c, at, want, api.OK)
	}
	for _, at := range []int{-1, 16, 1000, 1001, -1 << 63, 1<<63 - 1} {
		uses(t, c, at, nil, api.ErrArg)
	}
	c.Regs = 1
	uses(t, c, 15, []int{0}, api.OK)
	c.Regs = 16
	uses(t, c, 15, []int{0, 3, 4, 5, 8, 9, 15}, api.OK)
	c.Cell = nil
	uses(t, c, 0, nil, api.OK)
	uses(t, c, 1, nil, api.ErrArg)
}
