package machine_test

import (
	"strings"
	"testing"

	"helix/api"
	"helix/machine"
)

// wide is a code of E's letters that is run at all cells, of so many planes and three registers; the constants are 0, 7, -2, 3.
func wide(t *testing.T, planes int, text string, arrows ...api.Arrow) api.Code {
	t.Helper()
	return api.Code{
		Letters: 2, Planes: planes, Regs: 3, Lo: -65537, Hi: 65537, Most: 9, Table: []int{1, -1, 4, 10}, Consts: []int{0, 7, -2, 3},
		Arrows: arrows, Cell: cell(t, text),
	}
}

// over runs a code over 0 1 and 1 0 1, so that a row is not a column.
func over(t *testing.T, c api.Code) *machine.Table {
	t.Helper()
	return ran(t, c, []int{0, 1}, []int{1, 0, 1})
}

// Where a start is met.
func TestStart(t *testing.T) {
	for where, want := range map[string]string{
		"any":    "7 7 7 7 / 7 7 7 7 / 7 7 7 7",
		"row":    "7 7 7 7 / . . . . / . . . .",
		"column": "7 . . . / 7 . . . / 7 . . .",
		"corner": "7 . . . / . . . . / . . . .",
	} {
		looks(t, where, over(t, wide(t, 1, "start r0 c1 "+where+"; keep p0 r0")), 0, want)
		looks(t, where+", of what had a number", over(t, wide(t, 1, "start r0 c3 any; meet r0 r0 b2; start r0 c1 "+where+"; keep p0 r0")), 0, want)
	}
}

// Where an end is met, by the first and the last of the cells that meet it: its score is greater, or less, the further it lies.
func TestEnd(t *testing.T) {
	const far = `start r0 c0 corner; keep p0 r0; none r0; load r1 p0 D; meet r0 r1 b0; load r1 p0 I; meet r0 r1 b1;
		load r1 p1 D; meet r0 r1 b2; load r1 p1 I; meet r0 r1 b3; add r0 cK; keep p1 r0;`
	arrows := []api.Arrow{arrow(1, 0, 0, 2), arrow(1, 1, 0, 3), arrow(1, 2, 1, 2), arrow(1, 3, 1, 3)}
	for _, x := range []struct {
		where                   string
		upScore, upI, upJ       int // by 3 a step
		downScore, downI, downJ int // by -2 a step
	}{
		{"any", 22, 2, 3, 5, 0, 1},
		{"row", 22, 2, 3, 3, 2, 0},
		{"column", 22, 2, 3, 1, 0, 3},
		{"corner", 22, 2, 3, -3, 2, 3},
	} {
		up := over(t, wide(t, 2, strings.ReplaceAll(far, "cK", "c3")+"end p1 c1 "+x.where, arrows...))
		best(t, x.where+", up", up, x.upScore, x.upI, x.upJ, 1)
		down := over(t, wide(t, 2, strings.ReplaceAll(far, "cK", "c2")+"end p1 c1 "+x.where, arrows...))
		best(t, x.where+", down", down, x.downScore, x.downI, x.downJ, 1)
	}
}

// Each where of an end alone: plane 0 has a number at every cell that meets a start.
func TestEndOfStarts(t *testing.T) {
	for _, x := range []struct {
		start, end string
		i, j       int
		none       bool
	}{
		{"any", "any", 0, 0, false}, {"any", "row", 2, 0, false}, {"any", "column", 0, 3, false}, {"any", "corner", 2, 3, false},
		{"row", "any", 0, 0, false}, {"row", "row", 0, 0, true}, {"row", "column", 0, 3, false}, {"row", "corner", 0, 0, true},
		{"column", "any", 0, 0, false}, {"column", "row", 2, 0, false}, {"column", "column", 0, 0, true}, {"column", "corner", 0, 0, true},
		{"corner", "any", 0, 0, false}, {"corner", "row", 0, 0, true}, {"corner", "column", 0, 0, true}, {"corner", "corner", 0, 0, true},
	} {
		r := over(t, wide(t, 1, "start r0 c1 "+x.start+"; keep p0 r0; end p0 c2 "+x.end))
		if x.none {
			noBest(t, x.start+" "+x.end, r)
		} else {
			best(t, x.start+" "+x.end, r, 5, x.i, x.j, 0)
		}
	}
	r := ran(t, wide(t, 1, "start r0 c1 corner; keep p0 r0; end p0 c2 corner"), nil, nil)
	best(t, "no letters", r, 5, 0, 0, 0)
}

// What a load takes, by each step: plane 0 has numbers in row 0 alone, plane 1 everywhere behind it.
func TestLoad(t *testing.T) {
	const kept = "start r0 c1 row; keep p0 r0; none r0; load r1 p0 S; meet r0 r1 b5; keep p1 r0"
	for _, x := range []struct {
		step, want string
		number     int
	}{
		{"M", ". . . . / . 7:32 7:32 7:32 / . . . .", api.StepM},
		{"D", ". . . . / 7:32 7:32 7:32 7:32 / . . . .", api.StepD},
		{"I", ". 7:32 7:32 7:32 / . . . . / . . . .", api.StepI},
	} {
		c := wide(t, 2, strings.ReplaceAll(kept, "S", x.step), arrow(1, 5, 0, x.number))
		looks(t, x.step, over(t, c), 1, x.want)
	}
}

// A load with the step 0 changes neither the plane nor what comes of other loads. (What it takes can be kept in no plane, so that nothing else of it is to be seen.)
func TestLoadHere(t *testing.T) {
	c := wide(t, 2, "start r0 c1 any; keep p0 r0; start r0 c3 any; load r0 p0 here; add r0 c3; meet r0 r0 b1; none r1; load r2 p0 M; meet r1 r2 b0; keep p1 r1; load r1 p1 here; end p0 c0 any", arrow(1, 0, 0, 1))
	r := over(t, c)
	looks(t, "kept here", r, 0, "7 7 7 7 / 7 7 7 7 / 7 7 7 7")
	looks(t, "kept here", r, 1, ". . . . / . 7:1 7:1 7:1 / . 7:1 7:1 7:1")
	best(t, "kept here", r, 7, 0, 0, 0)
}

// A load of a cell that is not run has nothing, though a start would be met there.
func TestLoadOffTheBand(t *testing.T) {
	text := "start r0 c1 any; keep p0 r0; none r0; load r1 p0 S; meet r0 r1 b0; keep p1 r0"
	for _, x := range []struct {
		step   string
		number int
		want   string
	}{
		{"M", 1, ". . . . / . 7:1 7:1 . / . . 7:1 7:1"},
		{"D", 2, ". . . . / . 7:1 . . / . . 7:1 ."},
		{"I", 3, ". 7:1 . . / . . 7:1 . / . . . 7:1"},
	} {
		c := wide(t, 2, strings.ReplaceAll(text, "S", x.step), arrow(1, 0, 0, x.number))
		c.Lo, c.Hi = 0, 1
		r := over(t, c)
		looks(t, "the band 0 .. 1", r, 0, "7 7 . . / . 7 7 . / . . 7 7")
		looks(t, "the band 0 .. 1 by "+x.step, r, 1, x.want)
	}
}

// OpAdd and OpTable, of a number and of nothing.
func TestAddAndTable(t *testing.T) {
	for text, want := range map[string]string{
		"start r0 c1 any; add r0 c2":                                               "5 5 5 5 / 5 5 5 5 / 5 5 5 5",
		"start r0 c1 any; add r0 c2; add r0 c2":                                    "3 3 3 3 / 3 3 3 3 / 3 3 3 3",
		"start r0 c1 row; add r0 c2":                                               "5 5 5 5 / . . . . / . . . .",
		"none r0; add r0 c2":                                                       ". . . . / . . . . / . . . .",
		"start r0 c1 any; none r0":                                                 ". . . . / . . . . / . . . .",
		"start r0 c1 any; table r0":                                                ". . . . / . 6 8 6 / . 17 11 17",
		"start r0 c1 any; table r0; table r0":                                      ". . . . / . 5 9 5 / . 27 15 27",
		"start r0 c1 corner; table r0":                                             ". . . . / . . . . / . . . .",
		"none r0; table r0":                                                        ". . . . / . . . . / . . . .",
		"start r0 c1 any; table r0; add r0 c3":                                     ". . . . / . 9 11 9 / . 20 14 20",
		"start r0 c1 any; meet r0 r0 b4; add r0 c2":                                strings.ReplaceAll("5 5 5 5 / 5 5 5 5 / 5 5 5 5", "5", "5:16"),
		"start r0 c1 any; meet r0 r0 b4; table r0":                                 ". . . . / . 6:16 8:16 6:16 / . 17:16 11:16 17:16",
		"start r0 c1 any; meet r0 r0 b4; none r0":                                  ". . . . / . . . . / . . . .",
		"start r0 c1 any; meet r0 r0 b4; table r0; start r1 c1 any; meet r0 r1 b1": "7:2 7:2 7:2 7:2 / 7:2 7:2 8:16 7:2 / 7:2 17:16 11:16 17:16",
		"start r0 c1 any; table r0; start r1 c1 any; table r1; start r0 c1 corner; none r1": "7 . . . / . . . . / . . . .",
	} {
		looks(t, text, over(t, wide(t, 1, text+"; keep p0 r0")), 0, want)
	}
}

// The table's number stands at the place of x's letter times Letters, and y's.
func TestTablePlace(t *testing.T) {
	c := wide(t, 1, "start r0 c0 any; table r0; keep p0 r0")
	c.Letters, c.Table = 3, []int{1, 2, 3, 4, 5, 6, 7, 8, 9}
	looks(t, "three letters", ran(t, c, []int{0, 1, 2}, []int{0, 1, 2}), 0, ". . . . / . 1 2 3 / . 4 5 6 / . 7 8 9")
	looks(t, "turned", ran(t, c, []int{2, 0}, []int{1, 2}), 0, ". . . / . 8 9 / . 2 3")
	c.Letters, c.Table = 20, make([]int, 400)
	c.Table[399], c.Table[19], c.Table[380] = 5, 6, 7
	looks(t, "twenty", ran(t, c, []int{19, 0}, []int{19, 0}), 0, ". . . / . 5 7 / . 6 0")
}

// OpMeet: nothing and numbers, lesser, equal, greater, on either side.
func TestMeet(t *testing.T) {
	for text, want := range map[string]string{
		"none r0; none r1; meet r0 r1 b0":                                                                ".",
		"none r0; meet r0 r0 b0":                                                                         ".",
		"none r0; start r1 c1 any; meet r0 r1 b0":                                                        "7:1",
		"none r0; start r1 c1 any; meet r0 r1 b15":                                                       "7:32768",
		"start r0 c1 any; none r1; meet r0 r1 b0":                                                        "7",
		"start r0 c1 any; start r1 c3 any; meet r0 r1 b0":                                                "7",
		"start r0 c1 any; start r1 c1 any; meet r0 r1 b0":                                                "7:1",
		"start r0 c3 any; start r1 c1 any; meet r0 r1 b0":                                                "7:1",
		"start r0 c2 any; start r1 c0 any; meet r0 r1 b3":                                                "0:8",
		"start r0 c0 any; start r1 c2 any; meet r0 r1 b3":                                                "0",
		"none r0; start r1 c2 any; meet r0 r1 b3":                                                        "-2:8",
		"start r0 c1 any; meet r0 r0 b2":                                                                 "7:4",
		"start r0 c1 any; start r1 c1 any; meet r0 r1 b0; meet r0 r1 b2":                                 "7:5",
		"start r0 c1 any; start r1 c1 any; meet r0 r1 b0; meet r0 r1 b0":                                 "7:1",
		"start r0 c1 any; start r1 c1 any; meet r0 r1 b15; meet r0 r1 b0; meet r0 r1 b7":                 "7:32897",
		"start r0 c3 any; start r1 c3 any; meet r0 r1 b0; start r1 c1 any; meet r0 r1 b2":                "7:4",
		"start r0 c1 any; start r1 c1 any; meet r0 r1 b0; start r1 c3 any; meet r0 r1 b2":                "7:1",
		"start r0 c1 any; start r1 c1 any; meet r0 r1 b0; none r1; meet r0 r1 b2":                        "7:1",
		"start r0 c3 any; start r1 c3 any; meet r0 r1 b0; none r0; start r1 c3 any; meet r0 r1 b1":       "3:2",
		"start r0 c3 any; start r1 c3 any; meet r0 r1 b0; start r0 c3 any":                               "3",
		"start r0 c3 any; start r1 c1 any; add r1 c2; meet r0 r1 b0; add r0 c2; meet r0 r1 b1":           "5:2",
		"start r0 c3 any; start r1 c1 any; meet r1 r0 b0; start r2 c1 any; meet r2 r1 b0; none r2":       "3",
		"start r1 c1 any; start r0 c3 any; start r2 c3 any; meet r0 r2 b4; start r2 c3 any; none r1":     "3:16",
		"start r0 c1 any; start r1 c1 any; none r2; meet r0 r1 b1; meet r0 r2 b3; meet r0 r1 b2":         "7:6",
		"start r0 c1 any; start r1 c2 any; meet r0 r1 b1; start r1 c1 any; meet r0 r1 b3; table r0":      ".",
		"start r0 c1 any; start r1 c1 any; meet r0 r1 b1; start r1 c1 any; meet r0 r1 b3; add r0 c3":     "10:10",
		"start r0 c1 any; start r1 c2 any; meet r1 r0 b1; start r1 c1 any; meet r0 r1 b14; add r0 c0":    "7:16384",
		"start r0 c1 corner; start r1 c1 row; start r2 c1 column; meet r0 r1 b0; meet r0 r2 b1":          "7:3",
		"start r0 c2 corner; start r1 c3 row; start r2 c1 column; meet r0 r2 b1; meet r0 r1 b0; none r1": "7:2",
	} {
		looks(t, text, ran(t, wide(t, 1, text+"; keep p0 r0"), nil, nil), 0, want)
	}
}

// What met keeps its number, whatever the other register becomes later.
func TestMeetCopies(t *testing.T) {
	c := wide(t, 1, "none r0; start r1 c1 any; meet r0 r1 b0; add r1 c3; start r1 c2 any; none r1; keep p0 r0")
	looks(t, "the other one changes", ran(t, c, nil, nil), 0, "7:1")
	c = wide(t, 2, "none r0; keep p1 r0; start r0 c1 any; keep p0 r0; add r0 c3; meet r0 r0 b1; none r0; end p0 c0 any")
	r := ran(t, c, nil, nil)
	looks(t, "the register changes behind the keep", r, 0, "7")
	best(t, "the register changes behind the keep", r, 7, 0, 0, 0)
}

// A plane that keeps nothing has the mask 0, whatever the register's is.
func TestKeepNothing(t *testing.T) {
	c := wide(t, 2, "start r0 c1 row; keep p0 r0; none r0; load r1 p0 I; meet r0 r1 b0; table r0; keep p1 r0; end p1 c0 any", arrow(1, 0, 0, 3))
	r := over(t, c)
	looks(t, "nothing in row 0", r, 1, ". . . . / . . . . / . . . .")
	noBest(t, "nothing in row 0", r)
	looks(t, "plane 0", over(t, wide(t, 1, "start r0 c1 any; meet r0 r0 b4; table r0; keep p0 r0")), 0, ". . . . / . 6:16 8:16 6:16 / . 17:16 11:16 17:16")
}

// One register may be kept in several planes.
func TestKeepTwice(t *testing.T) {
	c := wide(t, 3, "start r0 c1 corner; keep p0 r0; none r0; keep p2 r0; load r1 p0 M; meet r0 r1 b2; keep p1 r0", arrow(1, 2, 0, 1))
	r := over(t, c)
	looks(t, "ahead", r, 2, ". . . . / . . . . / . . . .")
	looks(t, "behind", r, 1, ". . . . / . 7:4 . . / . . . .")
}

// A load takes what the plane of the cell one step back has, also where the plane is kept behind the load.
func TestLoadAheadOfKeep(t *testing.T) {
	c := wide(t, 2, "none r0; load r1 p0 I; meet r0 r1 b0; load r1 p1 I; add r1 c3; meet r0 r1 b1; keep p1 r0; start r2 c1 corner; keep p0 r2", arrow(1, 0, 0, 3), arrow(1, 1, 1, 3))
	r := over(t, c)
	looks(t, "plane 1", r, 1, ". 7:1 10:2 13:2 / . . . . / . . . .")
	looks(t, "plane 0", r, 0, "7 . . . / . . . . / . . . .")
}
