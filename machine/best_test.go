package machine_test

import (
	"testing"

	"helix/api"
)

// Of equal ends the one of the least row counts, though one of a lesser column lies further down.
func TestBestCell(t *testing.T) {
	for _, x := range []struct {
		what, text  string
		score, i, j int
	}{
		{"all", "start r0 c1 any; keep p0 r0; end p0 c0 any", 7, 0, 0},
		{"the last column", "start r0 c1 any; keep p0 r0; end p0 c0 column", 7, 0, 3},
		{"the last row", "start r0 c1 any; keep p0 r0; end p0 c0 row", 7, 2, 0},
		{"the last row and column", "start r0 c1 any; keep p0 r0; end p0 c0 row; end p0 c0 column", 7, 0, 3},
		{"the row is greater", "start r0 c1 any; keep p0 r0; end p0 c3 row; end p0 c0 column", 10, 2, 0},
		{"the column is greater", "start r0 c1 any; keep p0 r0; end p0 c0 row; end p0 c3 column", 10, 0, 3},
		{"the corner is greater", "start r0 c1 any; keep p0 r0; end p0 c0 any; end p0 c3 corner", 10, 2, 3},
		{"the corner is less", "start r0 c1 any; keep p0 r0; end p0 c2 corner; end p0 c0 column", 7, 0, 3},
		{"by the table", "start r0 c1 any; table r0; keep p0 r0; end p0 c0 any", 17, 2, 1},
	} {
		best(t, x.what, over(t, wide(t, 1, x.text)), x.score, x.i, x.j, 0)
	}
}

// An end below 0 is an end too, also where it is the first one.
func TestBestBelowNought(t *testing.T) {
	c := wide(t, 1, "start r0 c2 any; keep p0 r0; end p0 c2 any")
	best(t, "-4", over(t, c), -4, 0, 0, 0)
	c.Lo = 2
	best(t, "-4, in the band 2 ..", over(t, c), -4, 0, 2, 0)
	c.Lo, c.Hi = -65537, -2
	best(t, "-4, in the band .. -2", over(t, c), -4, 2, 0, 0)
	c = wide(t, 1, "start r0 c2 any; add r0 c2; keep p0 r0; end p0 c2 corner; end p0 c0 corner")
	best(t, "-4, of -6 and -4", over(t, c), -4, 2, 3, 0)
	c = wide(t, 1, "start r0 c0 any; keep p0 r0; end p0 c0 any")
	best(t, "0", over(t, c), 0, 0, 0, 0)
}

// forked is a code whose planes 0, 1, 2, 3 have 7 each at (1, 1), the last three from plane 0 by M; ends stand behind.
func forked(t *testing.T, ends string) api.Code {
	t.Helper()
	return wide(t, 4, `start r0 c1 any; keep p0 r0; none r0; load r1 p0 M; meet r0 r1 b0; keep p3 r0;
		none r0; load r1 p0 M; meet r0 r1 b0; keep p1 r0; none r0; load r1 p0 M; meet r0 r1 b0; keep p2 r0;`+ends,
		arrow(3, 0, 0, 1), arrow(1, 0, 0, 1), arrow(2, 0, 0, 1))
}

// Which planes are told: those of the greatest end at its cell, rising, each once.
func TestBestPlanes(t *testing.T) {
	for _, x := range []struct {
		ends   string
		score  int
		planes []int
	}{
		{"end p3 c0 corner; end p1 c0 corner; end p2 c0 corner", 7, []int{1, 2, 3}},
		{"end p3 c0 corner; end p0 c0 corner", 7, []int{0, 3}},
		{"end p3 c0 corner; end p3 c0 corner; end p3 c0 any", 7, []int{3}},
		{"end p3 c0 corner; end p2 c0 corner; end p3 c0 row; end p2 c0 column", 7, []int{2, 3}},
		{"end p3 c0 corner; end p1 c2 corner; end p2 c0 corner", 7, []int{2, 3}},
		{"end p3 c0 corner; end p1 c3 corner; end p2 c0 corner", 10, []int{1}},
		{"end p3 c0 corner; end p2 c0 corner; end p1 c3 corner", 10, []int{1}},
		{"end p1 c3 corner; end p3 c0 corner; end p2 c3 corner", 10, []int{1, 2}},
		{"end p1 c2 corner; end p1 c3 corner; end p2 c3 corner", 10, []int{1, 2}},
		{"end p1 c3 corner; end p1 c2 corner; end p2 c2 corner", 10, []int{1}},
		{"end p2 c2 corner; end p1 c2 corner", 5, []int{1, 2}},
	} {
		best(t, x.ends, ran(t, forked(t, x.ends), []int{0}, []int{0}), x.score, 1, 1, x.planes...)
	}
}

// Planes that have such an end at another cell are not told.
func TestBestOfOneCell(t *testing.T) {
	c := forked(t, "end p0 c0 column; end p1 c0 corner")
	best(t, "plane 0 ahead", ran(t, c, []int{0}, []int{0}), 7, 0, 1, 0)
	c = forked(t, "end p0 c0 row; end p1 c3 corner; end p2 c3 corner")
	best(t, "plane 0 has less ahead", ran(t, c, []int{0}, []int{0}), 10, 1, 1, 1, 2)
	c = forked(t, "end p1 c0 any; end p2 c0 corner; end p0 c2 any")
	best(t, "plane 2 behind", ran(t, c, []int{0, 0}, []int{0, 0}), 7, 1, 1, 1)
	c = forked(t, "end p1 c0 row; end p2 c0 column; end p3 c0 any")
	best(t, "all of several cells", ran(t, c, []int{0, 0}, []int{0, 0}), 7, 1, 1, 3)
}

// All ten planes can be told at once.
func TestBestOfTenPlanes(t *testing.T) {
	c := wide(t, 10, "start r0 c1 corner; keep p0 r0")
	for p := 9; p > 0; p-- {
		c.Arrows = append(c.Arrows, arrow(p, 9-p, 0, 2))
		c.Cell = append(c.Cell, api.Instr{Op: api.OpNone, A: 1}, api.Instr{Op: api.OpLoad, A: 2, C: 2}, api.Instr{Op: api.OpMeet, A: 1, B: 2, C: 9 - p},
			api.Instr{Op: api.OpKeep, A: p, B: 1}, api.Instr{Op: api.OpEnd, A: p, C: api.WhereCorner})
	}
	r := ran(t, c, []int{1}, nil)
	best(t, "nine of ten", r, 7, 1, 0, 1, 2, 3, 4, 5, 6, 7, 8, 9)
	looks(t, "the last one", r, 9, ". / 7:1")
	looks(t, "the first one", r, 1, ". / 7:256")
}

// No end is told where there is none: none is asked for, no plane has a number, or no cell is run.
func TestNoBest(t *testing.T) {
	noBest(t, "none is asked for", over(t, wide(t, 1, "start r0 c1 any; keep p0 r0")))
	noBest(t, "nothing is kept", over(t, wide(t, 1, "none r0; keep p0 r0; end p0 c1 any")))
	c := wide(t, 1, "start r0 c1 any; keep p0 r0; end p0 c1 any")
	for _, band := range [][2]int{{4, 65537}, {-65537, -3}, {65537, 65537}, {-65537, -65537}} {
		c.Lo, c.Hi = band[0], band[1]
		r := over(t, c)
		noBest(t, "off the band", r)
		looks(t, "off the band", r, 0, ". . . . / . . . . / . . . .")
		if r.Steps() != 0 {
			t.Error("M4: off the band", r.Steps())
		}
	}
}

// Steps, of all bands about cells of many sizes.
func TestSteps(t *testing.T) {
	c := wide(t, 1, "start r0 c1 any; none r1; keep p0 r0; end p0 c1 any; none r2")
	for rows := range 5 {
		for columns := range 5 {
			for lo := -6; lo <= 6; lo++ {
				for hi := lo; hi <= 6; hi++ {
					c.Lo, c.Hi = lo, hi
					ran(t, c, make([]int, rows), make([]int, columns))
				}
			}
		}
	}
	c.Lo, c.Hi = -1, 1
	if r := over(t, c); r.Steps() != 5*8 {
		t.Error("M4: the band -1 .. 1", r.Steps())
	}
	c.Lo, c.Hi = -65537, 65537
	if r := over(t, c); r.Steps() != 5*12 {
		t.Error("M4: all cells", r.Steps())
	}
	if r := ran(t, c, nil, nil); r.Steps() != 5 {
		t.Error("M4: one cell", r.Steps())
	}
}
