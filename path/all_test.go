package path_test

import (
	"reflect"
	"strings"
	"testing"

	"helix/api"
	"helix/path"
)

// tellsAll asks for just these paths, in their order.
func tellsAll(t *testing.T, m api.Model, x, y []int, want ...api.Path) {
	t.Helper()
	l, e := path.All(m, x, y)
	if e != api.OK || len(l) != len(want) || len(l) > 0 && !reflect.DeepEqual(l, want) {
		t.Errorf("All of mode %d, %v, %v: %v, %v, not %v", m.Mode, x, y, l, e, want)
	}
}

func best(t *testing.T, m api.Model, x, y []int, score int, p api.Path) {
	t.Helper()
	if f, e := path.Best(m, x, y); e != api.OK || f != (api.Found{Score: score, Path: p}) {
		t.Errorf("Best of mode %d, %v, %v: %v, %v, not %d, %v", m.Mode, x, y, f, e, score, p)
	}
}

// nothing asks that no path is legal.
func nothing(t *testing.T, m api.Model, x, y []int) {
	t.Helper()
	tellsAll(t, m, x, y)
	if f, e := path.Best(m, x, y); f != (api.Found{}) || e != api.ErrNoAlignment {
		t.Errorf("Best of mode %d, %v, %v: %v, %v", m.Mode, x, y, f, e)
	}
}

func TestAllOfEachMode(t *testing.T) {
	x, y := seq("0"), seq("1")
	m, id, di := from(0, 0, "M"), from(0, 0, "ID"), from(0, 0, "DI")
	tellsAll(t, example(api.Global), x, y, m, id, di)
	tellsAll(t, example(api.Fit), x, y, from(0, 0, "I"), m, id, from(1, 0, "I"), di)
	tellsAll(t, example(api.Extend), x, y, from(0, 0, ""), from(0, 0, "I"), from(0, 0, "D"), m, id, di)
	tellsAll(t, example(api.Local), x, y,
		from(0, 0, ""), from(0, 1, ""), from(0, 0, "I"), from(1, 0, ""), from(0, 0, "D"),
		from(1, 1, ""), m, from(0, 1, "D"), id, from(1, 0, "I"), di)
}

func TestAllWithoutGaps(t *testing.T) {
	x, y := seq("01"), seq("1")
	nothing(t, ungapped(example(api.Global)), x, y)
	tellsAll(t, ungapped(example(api.Global)), seq("01"), seq("00"), from(0, 0, "MM"))
	tellsAll(t, ungapped(example(api.Fit)), x, y, from(0, 0, "M"), from(1, 0, "M"))
	nothing(t, ungapped(example(api.Fit)), y, x)
	tellsAll(t, ungapped(example(api.Extend)), x, y, from(0, 0, ""), from(0, 0, "M"))
	tellsAll(t, ungapped(example(api.Local)), x, y,
		from(0, 0, ""), from(0, 1, ""), from(1, 0, ""), from(1, 1, ""), from(0, 0, "M"), from(2, 0, ""), from(2, 1, ""), from(1, 0, "M"))
}

func TestAllInABand(t *testing.T) {
	x, y := seq("00"), seq("00")
	tellsAll(t, banded(example(api.Global), 0, 0), x, y, from(0, 0, "MM"))
	tellsAll(t, banded(example(api.Global), 0, 1), x, y, from(0, 0, "MM"), from(0, 0, "IDM"), from(0, 0, "IMD"), from(0, 0, "MID"), from(0, 0, "IDID"))
	tellsAll(t, banded(example(api.Global), -1, 0), x, y, from(0, 0, "MM"), from(0, 0, "DIM"), from(0, 0, "DMI"), from(0, 0, "MDI"), from(0, 0, "DIDI"))
	nothing(t, banded(example(api.Global), 1, 2), x, y)
	nothing(t, banded(example(api.Global), -2, -1), x, y)
	nothing(t, banded(example(api.Extend), 1, 2), x, y)
	nothing(t, banded(example(api.Fit), 1, 2), x, y)
	tellsAll(t, banded(example(api.Fit), -1, -1), seq("000"), y, from(1, 0, "MM"))
	tellsAll(t, banded(example(api.Local), 2, 5), x, y, from(0, 2, ""))
	tellsAll(t, banded(example(api.Local), -9, -2), x, y, from(2, 0, ""))
	nothing(t, banded(example(api.Local), 3, 5), x, y)
	nothing(t, banded(example(api.Local), -5, -3), x, y)
	nothing(t, banded(example(api.Global), 0, 1), seq("000"), y)
}

// TestAllOfNoLetters: of one sequence, or of both.
func TestAllOfNoLetters(t *testing.T) {
	for _, mode := range []int{api.Global, api.Fit, api.Local, api.Extend} {
		tellsAll(t, example(mode), nil, nil, api.Path{})
		best(t, example(mode), nil, nil, 0, api.Path{})
	}
	tellsAll(t, example(api.Global), seq("01"), nil, from(0, 0, "DD"))
	tellsAll(t, example(api.Global), nil, seq("01"), from(0, 0, "II"))
	tellsAll(t, example(api.Fit), seq("01"), nil, from(0, 0, ""), from(1, 0, ""), from(0, 0, "D"), from(2, 0, ""), from(1, 0, "D"), from(0, 0, "DD"))
	tellsAll(t, example(api.Fit), nil, seq("01"), from(0, 0, "II"))
	tellsAll(t, example(api.Extend), nil, seq("01"), from(0, 0, ""), from(0, 0, "I"), from(0, 0, "II"))
	nothing(t, ungapped(example(api.Global)), seq("0"), nil)
}

// TestHowManyLetters: eight are told of, however they are shared out, nine are not.
func TestHowManyLetters(t *testing.T) {
	// The numbers of Delannoy: how many ways there are from corner to corner.
	counts := []int{1, 15, 85, 231, 321, 231, 85, 15, 1}
	for rows := range 9 {
		x, y := make([]int, rows), make([]int, 8-rows)
		for _, mode := range []int{api.Global, api.Fit, api.Local, api.Extend} {
			l, e := path.All(example(mode), x, y)
			if e != api.OK || mode == api.Global && len(l) != counts[rows] || len(l) < counts[rows] {
				t.Errorf("mode %d, %d rows: %d, %v", mode, rows, len(l), e)
			}
			if _, e := path.Best(example(mode), x, y); e != api.OK {
				t.Errorf("mode %d, %d rows: %v", mode, rows, e)
			}
		}
	}
	for _, total := range []int{9, 10, 16, 131072} {
		for _, rows := range []int{0, 1, 4, 5, total / 2, total - 1, total} {
			if max(rows, total-rows) > 65536 || rows > total {
				continue
			}
			long(t, example(api.Local), make([]int, rows), make([]int, total-rows))
			// That there is no path is told behind that there are too many letters.
			long(t, banded(example(api.Local), most, most), make([]int, rows), make([]int, total-rows))
		}
	}
	// The model's own bound comes first.
	great := with(example(api.Global), func(m *api.Model) { m.Gaps = gaps(most, most) })
	refused(t, "9 of 2", great, make([]int, 9), nil, api.ErrTooLong)
	refused(t, "8 of 2", great, make([]int, 8), nil, api.ErrTooLong)
	six := with(example(api.Global), func(m *api.Model) { m.Front = most })
	long(t, six, make([]int, 6), make([]int, 3))
	refused(t, "7 of 6", six, make([]int, 7), make([]int, 3), api.ErrTooLong)
	refused(t, "a letter of 9", six, make([]int, 8), []int{4}, api.ErrSymbol)
}

func long(t *testing.T, m api.Model, x, y []int) {
	t.Helper()
	if l, e := path.All(m, x, y); len(l) != 0 || e != api.ErrLong {
		t.Errorf("%d and %d letters: %d paths, %v", len(x), len(y), len(l), e)
	}
	if f, e := path.Best(m, x, y); f != (api.Found{}) || e != api.ErrLong {
		t.Errorf("%d and %d letters: %v, %v", len(x), len(y), f, e)
	}
}

// TestBestIsTheFirst: of paths that are worth the same, in each mode.
func TestBestIsTheFirst(t *testing.T) {
	zero := func(mode int) api.Model {
		return api.Model{Letters: 2, Subst: make([]int, 4), Gaps: gaps(0, 0), Mode: mode}
	}
	x, y := seq("01"), seq("10")
	best(t, zero(api.Global), x, y, 0, from(0, 0, "MM"))
	best(t, zero(api.Global), seq("010"), y, 0, from(0, 0, "DMM"))
	best(t, zero(api.Global), y, seq("010"), 0, from(0, 0, "IMM"))
	best(t, zero(api.Fit), x, y, 0, from(0, 0, "II"))
	best(t, zero(api.Local), x, y, 0, api.Path{})
	best(t, zero(api.Extend), x, y, 0, api.Path{})
	clip := func(mode int) api.Model {
		return with(zero(mode), func(m *api.Model) { m.Front, m.Back = 1, 1 })
	}
	best(t, clip(api.Local), x, y, 0, from(0, 0, "II"))
	best(t, clip(api.Extend), x, y, 0, from(0, 0, "II"))
	dear := with(clip(api.Local), func(m *api.Model) { m.Gaps, m.Subst = gaps(5, 5), []int{-2, -2, -2, -2} })
	best(t, dear, x, y, -1, api.Path{})
	best(t, banded(dear, 1, 2), x, y, -1, from(0, 2, ""))
	best(t, banded(dear, 1, 1), x, y, -1, from(1, 2, ""))
	best(t, banded(clip(api.Local), -2, -2), x, y, -1, from(2, 0, ""))
	// The worth may be below 0 for all.
	bad := with(zero(api.Global), func(m *api.Model) { m.Subst = []int{-7, -7, -7, -7} })
	best(t, ungapped(bad), x, y, -14, from(0, 0, "MM"))
	best(t, bad, x, y, 0, from(0, 0, "IIDD"))
	best(t, with(bad, func(m *api.Model) { m.Gaps = gaps(4, 0) }), x, y, -8, from(0, 0, "IIDD"))
	best(t, with(bad, func(m *api.Model) { m.Gaps = gaps(7, 0) }), x, y, -14, from(0, 0, "MM"))
}

// TestBestOfEachMode: the greatest, wherever it stands among all.
func TestBestOfEachMode(t *testing.T) {
	x, y := seq("3012"), seq("0123")
	best(t, example(api.Global), x, y, 6-10, from(0, 0, "DMMMI"))
	best(t, example(api.Fit), x, y, 6-5, from(1, 0, "MMMI"))
	best(t, example(api.Local), x, y, 6, from(1, 0, "MMM"))
	best(t, example(api.Extend), x, y, 6-5, from(0, 0, "DMMM"))
	best(t, example(api.Local), seq("3333"), seq("0033"), 4, from(0, 2, "MM"))
	best(t, example(api.Fit), seq("012301"), seq("01"), 4, from(0, 0, "MM"))
	best(t, example(api.Fit), seq("222301"), seq("01"), 4, from(4, 0, "MM"))
	clipped := with(example(api.Extend), func(m *api.Model) { m.Back = 100 })
	best(t, clipped, seq("0111"), seq("0222"), 2-7, from(0, 0, "MIII"))
	best(t, clipped, seq("0111"), seq("022"), 2-6, from(0, 0, "MII"))
	best(t, clipped, nil, seq("0222"), -8, from(0, 0, "IIII"))
	best(t, with(clipped, func(m *api.Model) { m.Back = 7 }), nil, seq("0222"), -7, api.Path{})
	best(t, with(clipped, func(m *api.Model) { m.Back = 8 }), nil, seq("0222"), -8, api.Path{})
}

// TestColumnsOfAllAreWhole: what is told is new memory, path by path.
func TestColumnsOfAllAreWhole(t *testing.T) {
	l, _ := path.All(example(api.Local), make([]int, 4), make([]int, 4))
	seen := map[api.Path]int{}
	for _, p := range l {
		seen[p]++
		if seen[p] > 1 || strings.Trim(p.Columns, "MDI") != "" {
			t.Fatal("twice, or no path", p)
		}
	}
	// Each cell is a path by itself.
	for i := range 5 {
		for j := range 5 {
			if seen[from(i, j, "")] != 1 {
				t.Error("missing", i, j)
			}
		}
	}
}
