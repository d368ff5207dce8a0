package eval_test

import (
	"math"
	"testing"

	"helix/api"
	"helix/check"
	"helix/eval"
	"helix/recur"
	"helix/syntax"
)

// lowered is the recurrence of a source.
func lowered(t *testing.T, source string) api.Recur {
	t.Helper()
	tree, fault := syntax.Parse(source)
	if fault.Code != api.OK {
		t.Fatal(source, fault)
	}
	s, fault := check.Check(tree)
	if fault.Code != api.OK {
		t.Fatal(source, fault)
	}
	r, e := recur.Lower(s)
	if e != api.OK {
		t.Fatal(source, e)
	}
	return r
}

// seq is a sequence of digits, or of the letters of ACGT.
func seq(s string) []int {
	var l []int
	for _, c := range []byte(s) {
		switch c {
		case 'A':
			c = '0'
		case 'C':
			c = '1'
		case 'G':
			c = '2'
		case 'T':
			c = '3'
		}
		l = append(l, int(c-'0'))
	}
	return l
}

func from(i, j int, columns string) api.Path { return api.Path{I: i, J: j, Columns: columns} }

// tells asks for a path and its score.
func tells(t *testing.T, r api.Recur, x, y []int, score int, p api.Path) {
	t.Helper()
	if f, e := eval.Eval(r, x, y); e != api.OK || f != (api.Found{Score: score, Path: p}) {
		t.Errorf("P13.1: Eval of %v, %v: %v, %v, not %d, %v", x, y, f, e, score, p)
	}
	if n, e := eval.Score(r, x, y); e != api.OK || n != score {
		t.Errorf("P13.1: Score of %v, %v: %d, %v, not %d", x, y, n, e, score)
	}
}

// tellsNone asks that there is no end.
func tellsNone(t *testing.T, r api.Recur, x, y []int) {
	t.Helper()
	if f, e := eval.Eval(r, x, y); e != api.ErrNoAlignment || f != (api.Found{}) {
		t.Errorf("P13.1: Eval of %v, %v: %v, %v", x, y, f, e)
	}
	if n, e := eval.Score(r, x, y); e != api.ErrNoAlignment || n != 0 {
		t.Errorf("P13.1: Score of %v, %v: %d, %v", x, y, n, e)
	}
}

// has asks for a state's value.
func has(t *testing.T, r api.Recur, x, y []int, state, i, j, want int) {
	t.Helper()
	if n, is, e := eval.Value(r, x, y, state, i, j); n != want || !is || e != api.OK {
		t.Errorf("P13.2: Value of %d at (%d, %d): %d, %v, %v, not %d", state, i, j, n, is, e, want)
	}
}

// hasNone asks that a state has no value.
func hasNone(t *testing.T, r api.Recur, x, y []int, state, i, j int) {
	t.Helper()
	if n, is, e := eval.Value(r, x, y, state, i, j); n != 0 || is || e != api.OK {
		t.Errorf("P13.2: Value of %d at (%d, %d): %d, %v, %v", state, i, j, n, is, e)
	}
}

// refuses asks for an error of Value alone.
func refuses(t *testing.T, r api.Recur, x, y []int, state, i, j int, want api.Errno) {
	t.Helper()
	if n, is, e := eval.Value(r, x, y, state, i, j); n != 0 || is || e != want {
		t.Errorf("P13.2: Value of %d at (%d, %d): %d, %v, %v, not %v", state, i, j, n, is, e, want)
	}
}

// refused asks for the error of a recurrence and two sequences, of all calls; of Value whatever else is wrong.
func refused(t *testing.T, what string, r api.Recur, x, y []int, want api.Errno) {
	t.Helper()
	if f, e := eval.Eval(r, x, y); f != (api.Found{}) || e != want {
		t.Errorf("%s: Eval: %v, %v, not %v", what, f, e, want)
	}
	if n, e := eval.Score(r, x, y); n != 0 || e != want {
		t.Errorf("%s: Score: %v, %v, not %v", what, n, e, want)
	}
	refuses(t, r, x, y, -1, 0, 0, want)
	refuses(t, r, x, y, -2, -1, math.MinInt, want)
	refuses(t, r, x, y, 9, math.MaxInt, 0, want)
}

const sourceE = `alphabet "ACGT"; match 2; mismatch -3; gap 4, 1; mode global;`

func TestExamplesOfTheChapter(t *testing.T) {
	r := lowered(t, sourceE)
	x, y := seq("0123"), seq("023")
	tells(t, r, x, y, 1, from(0, 0, "MDMM"))
	has(t, r, x, y, 0, 1, 1, 2)
	has(t, r, x, y, -1, 0, 0, 0)
	hasNone(t, r, x, y, -1, 0, 1)
	has(t, r, x, y, 1, 1, 0, -5)
	tells(t, r, nil, nil, 0, api.Path{})
	refuses(t, r, x, y, 3, 0, 0, api.ErrArg)
	refuses(t, r, x, y, 0, 5, 0, api.ErrArg)
	r.Banded = true
	tellsNone(t, r, x, y)
}

// Those of the whole that are of recurrences.
func TestExamplesOfTheWhole(t *testing.T) {
	r := lowered(t, sourceE)
	tells(t, r, seq("ACGT"), seq("ACGT"), 8, from(0, 0, "MMMM"))
	tells(t, r, seq("ACGT"), nil, -8, from(0, 0, "DDDD"))
	tells(t, r, nil, seq("ACGT"), -8, from(0, 0, "IIII"))
	rest := `alphabet "ACGT"; match 2; mismatch -3; gap 4, 1; `
	tells(t, lowered(t, rest+"mode local;"), seq("AAACGTAAA"), seq("TTCGTTT"), 6, from(3, 2, "MMM"))
	tells(t, lowered(t, rest+"mode fit;"), seq("TTACGTTT"), seq("ACG"), 6, from(2, 0, "MMM"))
	tells(t, lowered(t, rest+"mode extend; clip 0, 5;"), seq("ACGA"), seq("ACGT"), 3, from(0, 0, "MMMM"))
	tellsNone(t, lowered(t, rest+"mode global; band 0 .. 0;"), seq("ACGT"), seq("AGT"))
	two := lowered(t, `alphabet "ACGT"; match 2; mismatch -3; gap 1, 3; gap 10, 0; mode global;`)
	tells(t, two, seq("ACG"), nil, -10, from(0, 0, "DDD"))
	tells(t, two, seq("ACGT"), nil, -10, from(0, 0, "DDDD"))
	tells(t, two, seq("AC"), nil, -7, from(0, 0, "DD"))
}

// nums are definitions of numbers.
func nums(numbers ...int) []api.Def {
	var l []api.Def
	for _, n := range numbers {
		l = append(l, api.Def{Op: api.DefNum, Num: n})
	}
	return l
}

// state is one of a kind, with edges of a State and a Cost each.
func state(kind int, numbers ...int) api.State {
	s := api.State{Kind: kind}
	for k := 0; k < len(numbers); k += 2 {
		s.From = append(s.From, api.Edge{State: numbers[k], Cost: numbers[k+1]})
	}
	return s
}

// small is a recurrence of two letters, whose definitions are the numbers from 0 to 9 and behind them those from -1 to -9; like letters are worth 2, others -3.
func small(begin, end int, states ...api.State) api.Recur {
	return api.Recur{
		Letters: 2, Defs: nums(0, 1, 2, 3, 4, 5, 6, 7, 8, 9, -1, -2, -3, -4, -5, -6, -7, -8, -9),
		Subst: []int{2, 12, 12, 2}, Begin: begin, End: end, States: states,
	}
}

// Of a recurrence without states just the paths without columns are: they begin and end at one cell.
func TestNoStates(t *testing.T) {
	x, y := seq("01"), seq("10")
	tellsNone(t, small(1, 1), x, y)
	tells(t, small(1, 1), nil, nil, 0, api.Path{})
	tells(t, small(1, 2), x, nil, 0, api.Path{})
	tells(t, small(1, 3), x, y, 0, api.Path{})
	tells(t, small(2, 1), x, nil, 0, from(2, 0, ""))
	tellsNone(t, small(2, 1), nil, y)
	tells(t, small(3, 1), x, y, 0, from(2, 2, ""))
	tells(t, small(3, 2), x, y, 0, from(0, 2, ""))
	tells(t, small(2, 3), x, y, 0, api.Path{})
	tells(t, small(3, 3), x, y, 0, api.Path{})
	refuses(t, small(3, 3), x, y, 0, 0, 0, api.ErrArg)
	has(t, small(3, 3), x, y, -1, 2, 2, 0)
}

// Where paths may begin, and what that costs.
func TestTheBeginning(t *testing.T) {
	x, y := seq("011"), seq("10")
	for begin := 1; begin <= 3; begin++ {
		for band := range 4 {
			r := small(begin, 3, state(1, -1, -1, 0, -1))
			r.Front, r.Back = 4, 7
			if band > 0 {
				r.Banded, r.Lo, r.Hi = true, []int{0, -1, 1, -9}[band], []int{0, 1, 2, -2}[band]
			}
			for i := range 4 {
				for j := range 3 {
					may := begin == 3 || j == 0 && (begin == 2 || i == 0)
					if !may || r.Banded && (j-i < r.Lo || j-i > r.Hi) {
						hasNone(t, r, x, y, -1, i, j)
					} else if j == 0 {
						has(t, r, x, y, -1, i, j, 0)
					} else {
						has(t, r, x, y, -1, i, j, -4)
					}
				}
			}
		}
	}
}

// Where paths may end, and what that costs: the states' values are the same.
func TestTheEnd(t *testing.T) {
	x, y := seq("0001"), seq("001")
	match := state(1, -1, -1, 0, -1)
	tellsNone(t, small(1, 1, match), x, y)
	tells(t, small(1, 2, match), x, y, 1, from(0, 0, "MMM"))
	tells(t, small(1, 3, match), x, y, 4, from(0, 0, "MM"))
	tells(t, small(2, 1, match), x, y, 6, from(1, 0, "MMM"))
	tells(t, small(2, 2, match), x, y, 6, from(1, 0, "MMM"))
	back := func(r api.Recur, place int) api.Recur { r.Back = place; return r }
	tells(t, back(small(1, 3, match), 2), x, y, 2, from(0, 0, "MM"))
	tells(t, back(small(1, 3, match), 3), x, y, 1, from(0, 0, "MM"))
	tells(t, back(small(1, 3, match), 4), x, y, 1, from(0, 0, "MMM"))
	tells(t, back(small(1, 2, match), 9), x, y, 1, from(0, 0, "MMM"))
	tells(t, back(small(1, 3), 9), x, y, -9, api.Path{})
	tells(t, back(small(1, 3), 9), x, nil, 0, api.Path{})
	// The row's end costs nothing.
	tells(t, back(small(1, 3, match), 9), seq("0011"), seq("00"), 4, from(0, 0, "MM"))
	has(t, back(small(1, 3, match), 9), x, y, 0, 2, 2, 4)
	// Front is paid at a column above 0 alone, whatever the row.
	front := small(3, 1, match)
	front.Front = 3
	tells(t, front, seq("01"), seq("01"), 4, from(0, 0, "MM"))
	tells(t, front, seq("11"), seq("01"), -1, from(1, 1, "M"))
	tells(t, front, seq("11"), seq("001"), -1, from(1, 2, "M"))
	tells(t, front, seq("111"), seq("11"), 4, from(1, 0, "MM"))
	front.Front, front.Back = 9, 1
	tells(t, front, seq("111"), nil, 0, from(3, 0, ""))
}

// An edge leads just where it says: by its state's kind, from its own State.
func TestEdges(t *testing.T) {
	x, y := seq("0101"), seq("0101")
	// A match is open to an insert alone, this to the beginning.
	r := small(1, 3, state(1, 1, 3), state(3, -1, 1))
	tells(t, r, x, y, 0, api.Path{})
	has(t, r, x, y, 1, 0, 1, -1)
	has(t, r, x, y, 0, 1, 2, -1-3-3)
	hasNone(t, r, x, y, 1, 0, 2)
	hasNone(t, r, x, y, 0, 1, 1)
	hasNone(t, r, x, y, 0, 2, 3)
	hasNone(t, r, x, y, 1, 1, 3)
	// The greatest of several edges, at costs on either side of 0.
	r = small(1, 1, state(2, -1, 9, 0, 1), state(2, -1, 10, 0, 2, 1, 9), state(1, -1, -1, 0, 5, 1, 14))
	has(t, r, x, y, 0, 1, 0, -9)
	has(t, r, x, y, 1, 1, 0, 1)
	has(t, r, x, y, 0, 2, 0, -10)
	has(t, r, x, y, 1, 2, 0, -8)
	has(t, r, x, y, 0, 3, 0, -11)
	has(t, r, x, y, 1, 3, 0, -12)
	has(t, r, x, y, 2, 2, 1, 1+5-3)
	has(t, r, x, y, 2, 1, 1, 2)
	hasNone(t, r, x, y, 2, 3, 2)
	// One that no edge leads to has no value anywhere, nor one that only itself leads to.
	r = small(3, 3, state(1), state(2, 1, -1), state(3, 0, -1, 1, -1))
	for s := range 3 {
		for i := range 5 {
			for j := range 5 {
				hasNone(t, r, x, y, s, i, j)
			}
		}
	}
	tells(t, r, x, y, 0, api.Path{})
}

// The letters of the row come first in Subst.
func TestLettersOverEachOther(t *testing.T) {
	r := small(1, 1, state(1, -1, -1, 0, -1))
	r.Subst = []int{1, 2, 3, 4}
	tells(t, r, seq("0"), seq("0"), 1, from(0, 0, "M"))
	tells(t, r, seq("0"), seq("1"), 2, from(0, 0, "M"))
	tells(t, r, seq("1"), seq("0"), 3, from(0, 0, "M"))
	tells(t, r, seq("1"), seq("1"), 4, from(0, 0, "M"))
	tells(t, r, seq("0110"), seq("0011"), 1+3+4+2, from(0, 0, "MMMM"))
	r.Letters, r.Subst = 3, []int{1, 2, 3, 4, 5, 6, 7, 8, 9}
	tells(t, r, seq("2"), seq("1"), 8, from(0, 0, "M"))
	tells(t, r, seq("12"), seq("20"), 6+7, from(0, 0, "MM"))
}

// A cell off the band has no value, and no path goes by it.
func TestBands(t *testing.T) {
	band := func(r api.Recur, lo, hi int) api.Recur { r.Banded, r.Lo, r.Hi = true, lo, hi; return r }
	r := lowered(t, sourceE)
	x, y := seq("0123"), seq("023")
	tells(t, band(r, -1, 0), x, y, 1, from(0, 0, "MDMM"))
	tells(t, band(r, math.MinInt, math.MaxInt), x, y, 1, from(0, 0, "MDMM"))
	tellsNone(t, band(r, -9, -1), x, y)
	tellsNone(t, band(r, 0, 9), x, y)
	tellsNone(t, band(r, math.MaxInt, math.MaxInt), x, y)
	tellsNone(t, band(r, math.MinInt, math.MinInt), x, y)
	b := band(r, -1, 0)
	has(t, b, x, y, 0, 1, 1, 2)
	has(t, b, x, y, 1, 1, 0, -5)
	hasNone(t, b, x, y, 2, 0, 1)
	hasNone(t, b, x, y, 1, 2, 0)
	hasNone(t, b, x, y, 0, 3, 1)
	refuses(t, b, x, y, 0, 5, 5, api.ErrArg)
	// What lies off the band is not gone by, though it would be better.
	bent := small(1, 1, state(1, -1, -1, 0, -1, 1, -1, 2, -1), state(2, -1, 1, 0, 1, 1, 1, 2, 1), state(3, -1, 1, 0, 1, 1, 1, 2, 1))
	tells(t, bent, seq("0111"), seq("1110"), 6-2, from(0, 0, "DMMMI"))
	tells(t, band(bent, 0, 0), seq("0111"), seq("1110"), -3+4-3, from(0, 0, "MMMM"))
	tells(t, band(bent, 0, 1), seq("0111"), seq("1110"), 0, from(0, 0, "IDMMID"))
	local := small(3, 3, state(1, -1, -1, 0, -1))
	tells(t, band(local, 2, 3), seq("0101"), seq("1101"), 4, from(0, 2, "MM"))
	tells(t, band(local, 4, 5), seq("0101"), seq("1101"), 0, from(0, 4, ""))
	tellsNone(t, band(local, 5, 6), seq("0101"), seq("1101"))
	tells(t, band(local, -9, -4), seq("0101"), seq("1101"), 0, from(4, 0, ""))
	tellsNone(t, band(local, -9, -5), seq("0101"), seq("1101"))
}

// Value asks for the state and the cell.
func TestArgumentsOfValue(t *testing.T) {
	r := lowered(t, sourceE)
	x, y := seq("0123"), seq("023")
	for state := -1; state < 3; state++ {
		for i := range 5 {
			for j := range 4 {
				if _, _, e := eval.Value(r, x, y, state, i, j); e != api.OK {
					t.Error(state, i, j, e)
				}
			}
		}
	}
	for _, wrong := range []int{-2, 3, 4, 9, math.MinInt, math.MaxInt, 1 << 32} {
		refuses(t, r, x, y, wrong, 0, 0, api.ErrArg)
	}
	for _, wrong := range []int{-1, 5, 6, math.MinInt, math.MaxInt, 1 << 32} {
		refuses(t, r, x, y, 0, wrong, 0, api.ErrArg)
	}
	for _, wrong := range []int{-1, 4, 5, math.MinInt, math.MaxInt, 1 << 32} {
		refuses(t, r, x, y, 0, 0, wrong, api.ErrArg)
	}
	refuses(t, r, nil, nil, -1, 0, 1, api.ErrArg)
	refuses(t, r, nil, nil, -1, 1, 0, api.ErrArg)
	has(t, r, nil, nil, -1, 0, 0, 0)
	nine := small(1, 1, state(1), state(2), state(3), state(1), state(2), state(3), state(1), state(2), state(3, -1, 3))
	has(t, nine, seq("0"), seq("0"), 8, 0, 1, -3)
	refuses(t, nine, seq("0"), seq("0"), 9, 0, 1, api.ErrArg)
}
