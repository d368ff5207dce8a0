package path_test

import (
	"math"
	"reflect"
	"strings"
	"testing"

	"helix/api"
	"helix/path"
)

const most = 1 << 56

// example is the model of the chapter's examples, in a mode.
func example(mode int) api.Model {
	m := api.Model{Letters: 4, Subst: make([]int, 16), Gaps: gaps(4, 1), Mode: mode}
	for i := range 16 {
		m.Subst[i] = -3
		if i/4 == i%4 {
			m.Subst[i] = 2
		}
	}
	return m
}

// gaps are those of two numbers each.
func gaps(numbers ...int) []api.Gap {
	var l []api.Gap
	for i := 0; i < len(numbers); i += 2 {
		l = append(l, api.Gap{Open: numbers[i], Extend: numbers[i+1]})
	}
	return l
}

// with is a model to which something is done.
func with(m api.Model, do func(*api.Model)) api.Model {
	do(&m)
	return m
}

func banded(m api.Model, lo, hi int) api.Model {
	m.Banded, m.Lo, m.Hi = true, lo, hi
	return m
}

func ungapped(m api.Model) api.Model {
	m.Gaps = nil
	return m
}

// seq is a sequence by its digits.
func seq(digits string) []int {
	var l []int
	for _, d := range digits {
		l = append(l, int(d-'0'))
	}
	return l
}

func from(i, j int, columns string) api.Path {
	return api.Path{I: i, J: j, Columns: columns}
}

// worth asks that a path is legal and has a score.
func worth(t *testing.T, m api.Model, x, y []int, p api.Path, want int) {
	t.Helper()
	if ok, e := path.Legal(m, x, y, p); !ok || e != api.OK {
		t.Errorf("%v of mode %d, %v, %v: legal %v, %v", p, m.Mode, x, y, ok, e)
	}
	if n, e := path.Score(m, x, y, p); n != want || e != api.OK {
		t.Errorf("%v of mode %d, %v, %v: score %d, %v, not %d", p, m.Mode, x, y, n, e, want)
	}
}

// illegal asks that a path is not legal.
func illegal(t *testing.T, m api.Model, x, y []int, p api.Path) {
	t.Helper()
	if ok, e := path.Legal(m, x, y, p); ok || e != api.OK {
		t.Errorf("%v of mode %d, %v, %v: legal %v, %v", p, m.Mode, x, y, ok, e)
	}
	if n, e := path.Score(m, x, y, p); n != 0 || e != api.ErrPath {
		t.Errorf("%v of mode %d, %v, %v: score %d, %v", p, m.Mode, x, y, n, e)
	}
}

// refused asks for the error of a model and two sequences of all calls that take them, whatever path is handed in.
func refused(t *testing.T, what string, m api.Model, x, y []int, want api.Errno) {
	t.Helper()
	for _, p := range []api.Path{{}, from(0, 0, "MX"), from(-1, math.MaxInt, "M")} {
		if ok, e := path.Legal(m, x, y, p); ok || e != want {
			t.Errorf("%s: Legal %v, %v, not %v", what, ok, e, want)
		}
		if n, e := path.Score(m, x, y, p); n != 0 || e != want {
			t.Errorf("%s: Score %d, %v, not %v", what, n, e, want)
		}
	}
	if l, e := path.All(m, x, y); len(l) != 0 || e != want {
		t.Errorf("%s: All %v, %v, not %v", what, l, e, want)
	}
	if f, e := path.Best(m, x, y); f != (api.Found{}) || e != want {
		t.Errorf("%s: Best %v, %v, not %v", what, f, e, want)
	}
}

func TestExamples(t *testing.T) {
	m := example(api.Global)
	x, y := seq("0123"), seq("023")
	worth(t, m, x, y, from(0, 0, "MDMM"), 1)
	illegal(t, m, x, y, from(0, 0, "MMM"))
	illegal(t, m, x, y, from(0, 1, "MDMM"))
	illegal(t, m, x, y, from(0, 0, "MXMM"))
	worth(t, m, seq("0"), seq("0"), from(0, 0, "DI"), -10)
	tellsAll(t, m, seq("0"), seq("0"), from(0, 0, "M"), from(0, 0, "ID"), from(0, 0, "DI"))
	tellsAll(t, ungapped(m), seq("0"), seq("01"))
	best(t, example(api.Local), seq("01"), seq("23"), 0, api.Path{})
	best(t, m, nil, nil, 0, api.Path{})
}

// TestExamplesOfTheWhole: those of DOC.md whose sequences are short enough, and the paths of all.
func TestExamplesOfTheWhole(t *testing.T) {
	m := example(api.Global)
	best(t, m, seq("0123"), seq("0123"), 8, from(0, 0, "MMMM"))
	best(t, m, seq("0123"), seq("023"), 1, from(0, 0, "MDMM"))
	best(t, m, seq("0123"), nil, -8, from(0, 0, "DDDD"))
	worth(t, example(api.Local), seq("000123000"), seq("3312333"), from(3, 2, "MMM"), 6)
	worth(t, example(api.Local), seq("000123000"), seq("3312333"), from(4, 2, "MMM"), -9)
	best(t, example(api.Fit), seq("33012"), seq("012"), 6, from(2, 0, "MMM"))
	worth(t, example(api.Fit), seq("33012333"), seq("012"), from(2, 0, "MMM"), 6)
	clipped := with(example(api.Extend), func(m *api.Model) { m.Back = 5 })
	worth(t, clipped, seq("0120"), seq("0123"), from(0, 0, "MMM"), 1)
	best(t, clipped, seq("0120"), seq("0123"), 3, from(0, 0, "MMMM"))
	nothing(t, banded(m, 0, 0), seq("0123"), seq("023"))
	two := with(m, func(m *api.Model) { m.Gaps = gaps(1, 3, 10, 0) })
	best(t, two, seq("012"), nil, -10, from(0, 0, "DDD"))
	best(t, two, seq("0123"), nil, -10, from(0, 0, "DDDD"))
}

// TestColumnsAreBytes: nothing but M, D and I, as they are written, is a column.
func TestColumnsAreBytes(t *testing.T) {
	m := example(api.Local)
	x, y := seq("00"), seq("00")
	for b := range 256 {
		column := string([]byte{byte(b)})
		for _, columns := range []string{column, "M" + column, column + "M"} {
			if strings.Contains("MDI", column) {
				if ok, e := path.Legal(m, x, y, from(0, 0, columns)); !ok || e != api.OK {
					t.Errorf("%q: %v, %v", columns, ok, e)
				}
				continue
			}
			illegal(t, m, x, y, from(0, 0, columns))
		}
	}
	for _, columns := range []string{"\u014d", "M\u0144", " ", "M ", "m", "S", "=", "1M", "M\x00"} {
		illegal(t, m, x, y, from(0, 0, columns))
	}
}

// TestModes: which of all cells each mode lets a path begin and end at.
func TestModes(t *testing.T) {
	x, y := seq("012"), seq("01")
	for mode, may := range map[int]func(i, j, k, l int) bool{
		api.Global: func(i, j, k, l int) bool { return i == 0 && j == 0 && k == 3 && l == 2 },
		api.Fit:    func(i, j, k, l int) bool { return j == 0 && l == 2 },
		api.Local:  func(i, j, k, l int) bool { return true },
		api.Extend: func(i, j, k, l int) bool { return i == 0 && j == 0 },
	} {
		m := with(example(mode), func(m *api.Model) { m.Subst, m.Gaps = make([]int, 16), gaps(0, 0) })
		for i := range 4 {
			for j := range 3 {
				for k := i; k < 4; k++ {
					for l := j; l < 3; l++ {
						p := from(i, j, strings.Repeat("D", k-i)+strings.Repeat("I", l-j))
						if may(i, j, k, l) {
							worth(t, m, x, y, p, 0)
						} else {
							illegal(t, m, x, y, p)
						}
					}
				}
			}
		}
	}
}

// TestPathsWithoutColumns: such a path begins and ends at one cell.
func TestPathsWithoutColumns(t *testing.T) {
	for _, mode := range []int{api.Global, api.Fit, api.Local, api.Extend} {
		worth(t, example(mode), nil, nil, api.Path{}, 0)
		worth(t, ungapped(example(mode)), nil, nil, api.Path{}, 0)
		illegal(t, banded(example(mode), 1, 3), nil, nil, api.Path{})
		illegal(t, banded(example(mode), -3, -1), nil, nil, api.Path{})
		worth(t, banded(example(mode), 0, 0), nil, nil, api.Path{}, 0)
	}
	illegal(t, example(api.Global), seq("0"), nil, api.Path{})
	illegal(t, example(api.Global), nil, seq("0"), api.Path{})
	worth(t, example(api.Fit), seq("012"), nil, from(2, 0, ""), 0)
	worth(t, example(api.Fit), seq("012"), nil, from(3, 0, ""), 0)
	illegal(t, example(api.Fit), seq("012"), nil, from(4, 0, ""))
	illegal(t, example(api.Fit), seq("012"), seq("0"), from(1, 0, ""))
	worth(t, example(api.Local), seq("01"), seq("01"), from(2, 2, ""), 0)
	worth(t, example(api.Local), seq("01"), seq("01"), from(2, 0, ""), 0)
	worth(t, example(api.Extend), seq("01"), seq("01"), from(0, 0, ""), 0)
	illegal(t, example(api.Extend), seq("01"), seq("01"), from(0, 1, ""))
	illegal(t, example(api.Extend), seq("01"), seq("01"), from(1, 0, ""))
}

// TestOffTheCells: no cell of a path may lie off the cells, the first and the last one too; whatever it begins at, no sum goes round into them.
func TestOffTheCells(t *testing.T) {
	m := example(api.Local)
	x, y := seq("012"), seq("01")
	for _, n := range []int{-1, -2, 4, 5, math.MinInt, math.MinInt + 1, math.MaxInt, math.MaxInt - 1, 1 << 32, -1 << 63} {
		for _, columns := range []string{"", "M", "MM", "D", "I", "DDD", "III"} {
			for _, other := range []int{0, 1, 2, n} {
				illegal(t, m, x, y, from(n, other, columns))
				illegal(t, m, x, y, from(other, n, columns))
			}
		}
	}
	worth(t, m, x, y, from(3, 2, ""), 0)
	illegal(t, m, x, y, from(3, 2, "M"))
	illegal(t, m, x, y, from(3, 2, "D"))
	illegal(t, m, x, y, from(3, 2, "I"))
	illegal(t, m, x, y, from(3, 0, "DI"))
	illegal(t, m, x, y, from(2, 1, "MM"))
	illegal(t, m, x, y, from(0, 3, ""))
	worth(t, m, x, y, from(2, 1, "DI"), -10)
	worth(t, m, x, y, from(3, 0, "II"), -6)
	worth(t, m, x, y, from(0, 2, "DDD"), -7)
	illegal(t, m, x, y, from(0, 0, strings.Repeat("M", 1<<20)))
	illegal(t, m, x, y, from(0, 0, "MM"+strings.Repeat("D", 1<<20)))
}

// TestBand: each cell of a path lies in it, that it begins at, that it ends at, and those between.
func TestBand(t *testing.T) {
	m := example(api.Local)
	x, y := seq("0000"), seq("0000")
	for _, c := range []struct {
		lo, hi int
		p      api.Path
		legal  bool
	}{
		{0, 0, from(0, 0, "MMMM"), true}, {0, 0, from(0, 0, "DI"), false}, {0, 0, from(0, 0, "ID"), false},
		{0, 1, from(0, 0, "ID"), true}, {0, 1, from(0, 0, "DI"), false}, {-1, 0, from(0, 0, "DI"), true}, {-1, 0, from(0, 0, "ID"), false},
		{0, 1, from(0, 0, "IIDD"), false}, {0, 2, from(0, 0, "IIDD"), true}, {-1, 0, from(0, 0, "DDII"), false}, {-2, 0, from(0, 0, "DDII"), true},
		{1, 2, from(0, 0, "IM"), false}, {1, 2, from(0, 1, "M"), true}, {1, 2, from(0, 2, "MD"), true}, {1, 2, from(0, 2, "MDD"), false},
		{-2, -1, from(0, 0, "DM"), false}, {-2, -1, from(1, 0, "M"), true}, {-2, -1, from(1, 0, "MI"), false}, {-2, -1, from(2, 0, "MI"), true},
		{2, 2, from(0, 2, ""), true}, {2, 2, from(0, 1, ""), false}, {2, 2, from(0, 3, ""), false}, {2, 2, from(1, 3, "M"), true},
		{-4, -4, from(4, 0, ""), true}, {4, 4, from(0, 4, ""), true}, {5, most, from(0, 4, ""), false}, {-most, -5, from(4, 0, ""), false},
		{-most, most, from(0, 0, "DDDDIIII"), true}, {-most, -most, from(0, 0, ""), false}, {most, most, from(0, 0, ""), false},
	} {
		ok, e := path.Legal(banded(m, c.lo, c.hi), x, y, c.p)
		if ok != c.legal || e != api.OK {
			t.Errorf("%v of the band %d .. %d: %v, %v", c.p, c.lo, c.hi, ok, e)
		}
		if ok, e := path.Legal(m, x, y, c.p); !ok || e != api.OK {
			t.Errorf("%v without a band: %v, %v", c.p, ok, e)
		}
	}
}

// TestWithoutGaps: such a model has no D and no I, wherever they stand.
func TestWithoutGaps(t *testing.T) {
	m := ungapped(example(api.Local))
	x, y := seq("0123"), seq("0123")
	for _, columns := range []string{"D", "I", "MD", "MI", "DM", "IM", "MDM", "MIM", "DI"} {
		illegal(t, m, x, y, from(0, 0, columns))
		illegal(t, with(m, func(m *api.Model) { m.Gaps = []api.Gap{} }), x, y, from(0, 0, columns))
	}
	worth(t, m, x, y, from(0, 0, "MMMM"), 8)
	worth(t, m, x, y, from(1, 0, "MMM"), -9)
	worth(t, m, x, y, from(1, 0, ""), 0)
}

// TestSubst: the letter of x tells the row of the table, the one of y its column.
func TestSubst(t *testing.T) {
	m := api.Model{Letters: 3, Subst: []int{1, 2, 4, 8, 16, 32, 64, 128, -256}, Mode: api.Global}
	for a := range 3 {
		for b := range 3 {
			worth(t, m, []int{a}, []int{b}, from(0, 0, "M"), m.Subst[3*a+b])
		}
	}
	worth(t, m, seq("012"), seq("210"), from(0, 0, "MMM"), 4+16+64)
	worth(t, m, seq("022"), seq("122"), from(0, 0, "MMM"), 2-256-256)
	m.Mode = api.Local
	worth(t, m, seq("012"), seq("210"), from(1, 0, "MM"), 32+128)
	worth(t, m, seq("012"), seq("210"), from(0, 2, "M"), 1)
}

// TestGapsOfAPath: a gap goes as far as its columns are alike, and its cost is the least of all lines of just so many.
func TestGapsOfAPath(t *testing.T) {
	m := with(example(api.Local), func(m *api.Model) { m.Gaps, m.Subst = gaps(100, 7, 110, 1), make([]int, 16) })
	x, y := make([]int, 9), make([]int, 9)
	for columns, want := range map[string]int{
		"D": -107, "I": -107, "DD": -112, "II": -112, "DDD": -113, "IIII": -114,
		"DI": -214, "ID": -214, "DDI": -219, "DID": -321, "DIID": -326, "DMD": -214, "IMI": -214, "DMMI": -214,
		"MDDM": -112, "MDM": -107, "DM": -107, "MD": -107, "IM": -107, "MI": -107, "DDIIDDII": -448, "IIDMDII": -438, "MMDDDMM": -113,
	} {
		worth(t, m, x, y, from(0, 0, columns), want)
	}
	four := with(m, func(m *api.Model) { m.Gaps = gaps(0, 10, 9, 5, 20, 2, 31, 0) })
	for k, want := range []int{0, 10, 19, 24, 28, 30, 31, 31, 31, 31} {
		if k > 0 {
			worth(t, four, x, y, from(0, 0, strings.Repeat("D", k)), -want)
			worth(t, four, x, y, from(0, 0, strings.Repeat("I", k)), -want)
		}
	}
}

// TestEnds: Front is taken where a path begins at a column above 0, Back where it ends at one below the last; rows do not count.
func TestEnds(t *testing.T) {
	m := with(example(api.Local), func(m *api.Model) { m.Front, m.Back = 100, 1000 })
	x, y := seq("000"), seq("000")
	worth(t, m, x, y, from(0, 0, "MMM"), 6)
	worth(t, m, x, y, from(0, 0, "MM"), 4-1000)
	worth(t, m, x, y, from(0, 1, "MM"), 4-100)
	worth(t, m, x, y, from(0, 1, "M"), 2-1100)
	worth(t, m, x, y, from(1, 0, "MI"), 2-5-1000)
	worth(t, m, x, y, from(1, 0, "MII"), 2-6)
	worth(t, m, x, y, from(3, 0, "III"), -7)
	worth(t, m, x, y, from(0, 0, ""), -1000)
	worth(t, m, x, y, from(0, 2, ""), -1100)
	worth(t, m, x, y, from(0, 3, ""), -100)
	worth(t, m, x, y, from(3, 3, ""), -100)
	worth(t, m, x, nil, from(1, 0, ""), 0)
	worth(t, m, x, nil, from(1, 0, "D"), -5)
	m.Mode = api.Extend
	worth(t, m, x, y, from(0, 0, "MMM"), 6)
	worth(t, m, x, y, from(0, 0, "MM"), 4-1000)
	worth(t, m, x, y, from(0, 0, "III"), -7)
	m.Mode = api.Fit
	worth(t, m, x, y, from(0, 0, "MMM"), 6)
	worth(t, m, x, y, from(1, 0, "MMI"), 4-5)
	m.Mode = api.Global
	worth(t, m, x, y, from(0, 0, "MMM"), 6)
	// Least is asked of no path.
	m.Least = most
	worth(t, m, x, y, from(0, 0, "MMM"), 6)
}

// TestErrorsOfTheModel: each thing that chapter 10 asks of a model is asked, ahead of all else.
func TestErrorsOfTheModel(t *testing.T) {
	wrong := []int{-1, 4, math.MaxInt}
	long := make([]int, 65537)
	for what, do := range map[string]func(*api.Model){
		"letters 0":  func(m *api.Model) { m.Letters, m.Subst = 0, nil },
		"letters 1":  func(m *api.Model) { m.Letters, m.Subst = 1, []int{1} },
		"letters 21": func(m *api.Model) { m.Letters, m.Subst = 21, make([]int, 441) },
		"Subst":      func(m *api.Model) { m.Subst = m.Subst[:15] },
		"Subst wide": func(m *api.Model) { m.Subst = append(m.Subst[:15:15], most+1) },
		"gaps":       func(m *api.Model) { m.Gaps = make([]api.Gap, 5) },
		"Open":       func(m *api.Model) { m.Gaps = gaps(-1, 0) },
		"Extend":     func(m *api.Model) { m.Gaps = gaps(0, most+1) },
		"mode 0":     func(m *api.Model) { m.Mode = 0 },
		"mode 5":     func(m *api.Model) { m.Mode = 5 },
		"Front":      func(m *api.Model) { m.Front = -1 },
		"Back":       func(m *api.Model) { m.Back = most + 1 },
		"Least":      func(m *api.Model) { m.Least = -most - 1 },
		"no band":    func(m *api.Model) { m.Hi = 1 },
		"band":       func(m *api.Model) { m.Banded, m.Lo, m.Hi = true, 1, 0 },
		"nothing":    func(m *api.Model) { *m = api.Model{} },
	} {
		m := with(example(api.Local), do)
		refused(t, what, m, nil, nil, api.ErrModel)
		refused(t, what, m, wrong, long, api.ErrModel)
		refused(t, what, m, long, wrong, api.ErrModel)
	}
}

// TestErrorsOfTheSequences: letters are asked of both ahead of lengths, and both ahead of how many may be told of all.
func TestErrorsOfTheSequences(t *testing.T) {
	m := example(api.Local)
	for _, n := range []int{-1, 4, 5, 'A', math.MinInt, math.MaxInt} {
		for at := range 3 {
			l := seq("012")
			l[at] = n
			refused(t, "x", m, l, nil, api.ErrSymbol)
			refused(t, "y", m, nil, l, api.ErrSymbol)
			refused(t, "both", m, l, l, api.ErrSymbol)
			refused(t, "x, y too long", m, l, make([]int, 65537), api.ErrSymbol)
			refused(t, "y, x too long", m, make([]int, 65537), l, api.ErrSymbol)
		}
		long := make([]int, 65537)
		long[65536] = n
		refused(t, "the last of x", m, long, nil, api.ErrSymbol)
		refused(t, "the last of y", m, nil, long, api.ErrSymbol)
	}
	refused(t, "x too long", m, make([]int, 65537), nil, api.ErrTooLong)
	refused(t, "y too long", m, nil, make([]int, 65537), api.ErrTooLong)
	short := with(m, func(m *api.Model) { m.Gaps = gaps(most, most) })
	refused(t, "x above 2", short, seq("012"), nil, api.ErrTooLong)
	refused(t, "y above 2", short, seq("00"), seq("012"), api.ErrTooLong)
	refused(t, "y far above 2", short, nil, make([]int, 9), api.ErrTooLong)
	refused(t, "letters of what is too long", short, seq("014"), nil, api.ErrSymbol)
	worth(t, short, seq("00"), seq("12"), from(0, 0, "MM"), -6)
	twenty := api.Model{Letters: 20, Subst: make([]int, 400), Mode: api.Global}
	twenty.Subst[399] = 7
	worth(t, twenty, []int{19}, []int{19}, from(0, 0, "M"), 7)
	refused(t, "20 of 20", twenty, []int{20}, []int{0}, api.ErrSymbol)
	two := api.Model{Letters: 2, Subst: []int{1, 2, 3, 4}, Mode: api.Global}
	worth(t, two, []int{1}, []int{0}, from(0, 0, "M"), 3)
	refused(t, "2 of 2", two, []int{0}, []int{2}, api.ErrSymbol)
}

// TestLongest: at the limit paths are told, of as many columns as there may be.
func TestLongest(t *testing.T) {
	m := example(api.Global)
	long := make([]int, 65536)
	worth(t, m, long, long, from(0, 0, strings.Repeat("M", 65536)), 131072)
	worth(t, m, long, long, from(0, 0, strings.Repeat("D", 65536)+strings.Repeat("I", 65536)), -131080)
	worth(t, m, long, long, from(0, 0, strings.Repeat("ID", 65536)), -10*65536)
	illegal(t, m, long, long, from(0, 0, strings.Repeat("M", 65537)))
	illegal(t, m, long, long, from(0, 0, strings.Repeat("M", 65535)))
	worth(t, m, long, nil, from(0, 0, strings.Repeat("D", 65536)), -65540)
	great := with(m, func(m *api.Model) { m.Gaps = gaps(0, 1<<42) })
	worth(t, great, long, long, from(0, 0, strings.Repeat("D", 65536)+strings.Repeat("I", 65536)), -1<<59)
	wide := with(example(api.Local), func(m *api.Model) {
		m.Subst, m.Gaps, m.Front, m.Back = make([]int, 16), gaps(most, most), 1<<56, 1<<56
	})
	worth(t, wide, seq("00"), seq("00"), from(0, 1, "D"), -4*most)
	worth(t, wide, seq("00"), seq("00"), from(0, 0, "DIDI"), -8*most)
}

// roomy is a list with spare room that is filled.
func roomy(l []int) []int {
	return append(append(make([]int, 0, len(l)+3), l...), 77, 78, 79)[:len(l)]
}

// TestNothingIsChanged: what is handed in is as it was, its spare room too, and what is told is new.
func TestNothingIsChanged(t *testing.T) {
	m := example(api.Local)
	m.Subst = roomy(m.Subst)
	m.Gaps = append(append(make([]api.Gap, 0, 4), m.Gaps...), api.Gap{Open: 1})[:1]
	x, y := roomy(seq("0123")), roomy(seq("013"))
	p := from(0, 0, "MMDM")
	state := func() []any {
		all := [][]int{m.Subst[:19], x[:7], y[:6]}
		var copied []any
		for _, l := range all {
			copied = append(copied, append([]int(nil), l...))
		}
		return append(copied, append([]api.Gap(nil), m.Gaps[:2]...))
	}
	before := state()
	worth(t, m, x, y, p, 1)
	illegal(t, m, x, y, from(0, 0, "MMDMM"))
	l, e := path.All(m, x, y)
	if e != api.OK {
		t.Fatal(e)
	}
	best(t, m, x, y, 4, from(0, 0, "MM"))
	if c, e := path.Cost(2, m.Gaps...); c != 6 || e != api.OK {
		t.Error(c, e)
	}
	if !reflect.DeepEqual(before, state()) {
		t.Error("changed")
	}
	again, _ := path.All(m, x, y)
	if !reflect.DeepEqual(l, again) {
		t.Error("told otherwise the second time")
	}
	again[0].Columns, again = "X", append(again[:1], again...)
	if third, _ := path.All(m, x, y); !reflect.DeepEqual(l, third) {
		t.Error("what is told is kept")
	}
}

// TestNilAndEmpty: a list that is nil and one that is empty are the same.
func TestNilAndEmpty(t *testing.T) {
	m := example(api.Global)
	for _, x := range [][]int{nil, {}} {
		for _, y := range [][]int{nil, {}} {
			worth(t, m, x, y, api.Path{}, 0)
			tellsAll(t, m, x, y, api.Path{})
			best(t, m, x, y, 0, api.Path{})
		}
	}
	empty := with(m, func(m *api.Model) { m.Gaps = []api.Gap{} })
	tellsAll(t, empty, seq("0"), seq("01"))
	tellsAll(t, empty, seq("0"), seq("1"), from(0, 0, "M"))
}
