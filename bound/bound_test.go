package bound_test

import (
	"math"
	"reflect"
	"testing"

	"helix/api"
	"helix/bound"
	"helix/check"
	"helix/syntax"
)

const most = 1 << 56

// first is the model of the chapter's first example.
func first() api.Model {
	return api.Model{Letters: 2, Subst: []int{2, -3, -3, 2}, Gaps: []api.Gap{{Open: 4, Extend: 1}}, Mode: api.Fit}
}

// full is a model that has everything once, of numbers that are all unlike.
func full() api.Model {
	return api.Model{
		Letters: 2, Subst: []int{2, -3, -4, 5}, Gaps: gaps(1, 6, 7, 8, 9, 10, 11, 12),
		Mode: api.Extend, Banded: true, Lo: -13, Hi: 14, Front: 15, Back: 16, Least: 17,
	}
}

// gaps are those of two numbers each.
func gaps(numbers ...int) []api.Gap {
	var l []api.Gap
	for i := 0; i < len(numbers); i += 2 {
		l = append(l, api.Gap{Open: numbers[i], Extend: numbers[i+1]})
	}
	return l
}

// zeros has no number but 0.
func zeros(letters int) api.Model {
	return api.Model{Letters: letters, Subst: make([]int, letters*letters), Mode: api.Global}
}

// with is a model to which something is done.
func with(m api.Model, do func(*api.Model)) api.Model {
	do(&m)
	return m
}

// refused asks that a model is not right, which all calls tell, whatever else is handed to them.
func refused(t *testing.T, what string, m api.Model) {
	t.Helper()
	if bound.Right(m) {
		t.Errorf("%s: right", what)
	}
	if w, e := bound.Widest(m); w != 0 || e != api.ErrModel {
		t.Errorf("%s: Widest %d, %v", what, w, e)
	}
	if n, e := bound.Most(m); n != 0 || e != api.ErrModel {
		t.Errorf("%s: Most %d, %v", what, n, e)
	}
	for _, l := range [][2]int{{0, 0}, {1, 2}, {-1, 0}, {0, -1}, {math.MaxInt, 0}, {math.MinInt, math.MaxInt}} {
		if lo, hi, e := bound.Range(m, l[0], l[1]); lo != 0 || hi != 0 || e != api.ErrModel {
			t.Errorf("%s: Range of %v: %d, %d, %v", what, l, lo, hi, e)
		}
	}
}

// tells asks for the two numbers of a model that is right.
func tells(t *testing.T, what string, m api.Model, wide, long int) {
	t.Helper()
	if !bound.Right(m) {
		t.Errorf("%s: not right", what)
	}
	if w, e := bound.Widest(m); w != wide || e != api.OK {
		t.Errorf("%s: Widest %d, %v, not %d", what, w, e, wide)
	}
	if n, e := bound.Most(m); n != long || e != api.OK {
		t.Errorf("%s: Most %d, %v, not %d", what, n, e, long)
	}
}

func ranges(t *testing.T, m api.Model, rows, columns, low, high int, want api.Errno) {
	t.Helper()
	if lo, hi, e := bound.Range(m, rows, columns); lo != low || hi != high || e != want {
		t.Errorf("Range of %d and %d: %d, %d, %v, not %d, %d, %v", rows, columns, lo, hi, e, low, high, want)
	}
}

func TestExamples(t *testing.T) {
	tells(t, "the first", first(), 5, 65536)
	ranges(t, first(), 3, 5, -50, 15, api.OK)
	tells(t, "without gaps", with(first(), func(m *api.Model) { m.Gaps, m.Front = nil, 9 }), 9, 65536)
	great := with(first(), func(m *api.Model) { m.Subst, m.Gaps = []int{most, most, most, most}, gaps(most, most) })
	tells(t, "2^56", great, 1<<57, 2)
	tells(t, "2^50", with(zeros(2), func(m *api.Model) { m.Subst = []int{1 << 50, 1 << 50, 1 << 50, 1 << 50} }), 1<<50, 510)
	refused(t, "no letters", api.Model{})
	refused(t, "no letters, but a mode", api.Model{Mode: api.Fit})
}

// TestModelsOfSources: what chapter 9 tells of a source is right here.
func TestModelsOfSources(t *testing.T) {
	for source, want := range map[string][2]int{
		`alphabet "ACGT"; match 2; mismatch -3; gap 4, 1; mode global;`:                                                      {5, 65536},
		`alphabet "AC"; match 0; mismatch 0; mode local;`:                                                                    {1, 65536},
		`alphabet "AC"; match 1; mismatch -72057594037927936; mode fit;`:                                                     {1 << 56, 6},
		`alphabet "AC"; match 1; mismatch -1; gap 72057594037927936, 72057594037927936; mode extend;`:                        {1 << 57, 2},
		`alphabet "AC"; match 1; mismatch -1; gap 1, 3; gap 10, 0; mode extend; band -20 .. 30; clip 2, 11; least 2000;`:     {11, 65536},
		`alphabet "ACDEFGHIKLMNPQRSTVWY"; match 4; mismatch -1; pair "YW", 12; gap 9, 1; mode local; band 5 .. 5; least -9;`: {12, 65536},
	} {
		tree, f := syntax.Parse(source)
		if f.Code != api.OK {
			t.Fatal(source, f)
		}
		s, f := check.Check(tree)
		if f.Code != api.OK {
			t.Fatal(source, f)
		}
		m, e := check.Numbers(s)
		if e != api.OK {
			t.Fatal(source, e)
		}
		tells(t, source, m, want[0], want[1])
	}
}

func TestLetters(t *testing.T) {
	for letters := -3; letters <= 24; letters++ {
		n := letters * letters
		for _, long := range []int{n - 1, n, n + 1, n - letters, n + letters, 0, 1, letters} {
			if long < 0 {
				continue
			}
			m := api.Model{Letters: letters, Subst: make([]int, long), Mode: api.Global}
			if letters >= 2 && letters <= 20 && long == n {
				tells(t, "letters", m, 1, 65536)
			} else {
				refused(t, "letters", m)
			}
		}
	}
	// The squares of these go round, to 0, to 1 and to 4.
	for _, letters := range []int{math.MinInt, math.MaxInt, 1 << 32, -1 << 32, 1<<62 + 2, -2, math.MinInt + 2, math.MaxInt - 1} {
		for _, long := range []int{0, 1, 4} {
			refused(t, "letters that go round", api.Model{Letters: letters, Subst: make([]int, long), Mode: api.Global})
		}
	}
	refused(t, "no Subst", with(first(), func(m *api.Model) { m.Subst = nil }))
}

func TestGapsInNumber(t *testing.T) {
	for n := 0; n <= 6; n++ {
		m := with(first(), func(m *api.Model) { m.Gaps = make([]api.Gap, n) })
		if n <= 4 {
			tells(t, "gaps", m, 3, 65536)
		} else {
			refused(t, "gaps", m)
		}
	}
}

func TestModes(t *testing.T) {
	for _, mode := range []int{math.MinInt, -1, 0, 1, 2, 3, 4, 5, 6, 257, math.MaxInt} {
		m := with(first(), func(m *api.Model) { m.Mode = mode })
		if mode >= 1 && mode <= 4 {
			tells(t, "mode", m, 5, 65536)
		} else {
			refused(t, "mode", m)
		}
	}
}

// place is where a number stands in a model, and how wide the model is by it.
type place struct {
	name  string
	least int
	put   func(*api.Model, int)
	wide  func(n int) int
}

func size(n int) int { return max(n, -n) }

func none(int) int { return 0 }

// places are all of those of a model of 2 letters and 4 gaps that is banded; the gaps' other number is left as it is.
func places() []place {
	l := []place{
		{"Front", 0, func(m *api.Model, n int) { m.Front = n }, size},
		{"Back", 0, func(m *api.Model, n int) { m.Back = n }, size},
		{"Least", -most, func(m *api.Model, n int) { m.Least = n }, none},
		{"Lo", -most, func(m *api.Model, n int) { m.Lo, m.Hi = n, max(n, most) }, none},
		{"Hi", -most, func(m *api.Model, n int) { m.Lo, m.Hi = min(n, -most), n }, none},
	}
	for i := range 4 {
		l = append(l, place{"Subst", -most, func(m *api.Model, n int) { m.Subst[i] = n }, size})
		l = append(l, place{"Open", 0, func(m *api.Model, n int) { m.Gaps[i].Open = n }, size})
		l = append(l, place{"Extend", 0, func(m *api.Model, n int) { m.Gaps[i].Extend = n }, size})
	}
	return l
}

// TestNumbersAtEachPlace: at each place just the numbers that may stand there do, and each is as wide as its place says.
func TestNumbersAtEachPlace(t *testing.T) {
	numbers := []int{
		math.MinInt, math.MinInt + 1, -1 << 57, -most - 1, -most, -most + 1, -1 << 50, -100, -1, 0, 1, 2, 100, 1 << 50,
		most - 1, most, most + 1, 1 << 57, math.MaxInt - 1, math.MaxInt,
	}
	for _, p := range places() {
		for _, n := range numbers {
			m := zeros(2)
			m.Gaps, m.Banded = make([]api.Gap, 4), true
			p.put(&m, n)
			if n < p.least || n > most {
				if n > most && p.name == "Lo" {
					m.Hi = n
				}
				refused(t, p.name, m)
				continue
			}
			w := max(1, p.wide(n))
			tells(t, p.name, m, w, min(65536, 1<<59/w-2))
		}
	}
}

// TestOneFaultAtATime: a model that has everything is refused for any one number, whatever the others are.
func TestOneFaultAtATime(t *testing.T) {
	tells(t, "full", full(), 23, 65536)
	for _, p := range places() {
		for _, n := range []int{math.MinInt, p.least - 1, most + 1, math.MaxInt} {
			m := full()
			p.put(&m, n)
			refused(t, p.name, m)
		}
	}
}

func TestBands(t *testing.T) {
	for _, c := range []struct {
		banded bool
		lo, hi int
		right  bool
	}{
		{true, 0, 0, true}, {true, -1, 1, true}, {true, 1, 1, true}, {true, -1, -1, true}, {true, 2, 1, false}, {true, 1, -1, false},
		{true, 0, -1, false}, {true, -most, most, true}, {true, most, most, true}, {true, -most, -most, true}, {true, most, -most, false},
		{true, -most - 1, 0, false}, {true, 0, most + 1, false}, {true, most + 1, most + 1, false}, {true, -most - 1, -most - 1, false},
		{true, math.MinInt, math.MaxInt, false}, {true, math.MinInt, 0, false}, {true, 0, math.MaxInt, false},
		{false, 0, 0, true}, {false, 0, 1, false}, {false, -1, 0, false}, {false, 1, 1, false}, {false, -1, 1, false}, {false, 0, -1, false},
		{false, 1, 0, false}, {false, 1, -1, false}, {false, math.MinInt, math.MinInt, false}, {false, math.MaxInt, math.MaxInt, false},
	} {
		m := with(first(), func(m *api.Model) { m.Banded, m.Lo, m.Hi = c.banded, c.lo, c.hi })
		if c.right {
			tells(t, "band", m, 5, 65536)
		} else {
			refused(t, "band", m)
		}
	}
}

// TestWidest: the widest number counts wherever it stands, and only where it may.
func TestWidest(t *testing.T) {
	tells(t, "zeros", zeros(2), 1, 65536)
	tells(t, "zeros of 20 letters", zeros(20), 1, 65536)
	for at := range 400 {
		for _, n := range []int{77, -77} {
			tells(t, "Subst", with(zeros(20), func(m *api.Model) { m.Subst[at] = n; m.Subst[(at+7)%400] = 76 }), 77, 65536)
		}
	}
	for at := range 4 {
		tells(t, "Open", with(full(), func(m *api.Model) { m.Gaps[at] = api.Gap{Open: 90} }), 90, 65536)
		tells(t, "Extend", with(full(), func(m *api.Model) { m.Gaps[at] = api.Gap{Extend: 90} }), 90, 65536)
		tells(t, "both", with(full(), func(m *api.Model) { m.Gaps[at] = api.Gap{Open: 44, Extend: 46} }), 90, 65536)
	}
	tells(t, "two gaps are not put together", with(zeros(2), func(m *api.Model) { m.Gaps = gaps(5, 1, 1, 6, 4, 2) }), 7, 65536)
	tells(t, "the ends are not put together", with(full(), func(m *api.Model) { m.Front, m.Back = 50, 60 }), 60, 65536)
	tells(t, "Front", with(full(), func(m *api.Model) { m.Front = 70 }), 70, 65536)
	tells(t, "Back", with(full(), func(m *api.Model) { m.Back = 70 }), 70, 65536)
	tells(t, "Least does not count", with(full(), func(m *api.Model) { m.Least = -most }), 23, 65536)
	tells(t, "bands do not count", with(full(), func(m *api.Model) { m.Lo, m.Hi = -most, most }), 23, 65536)
	tells(t, "Letters and Mode do not count", with(zeros(20), func(m *api.Model) { m.Mode = api.Extend }), 1, 65536)
}

// TestMost: how long sequences may be, where it begins to be less than 65536, step by step down to 2.
func TestMost(t *testing.T) {
	edge := 1 << 59 / 65538
	for w, long := range map[int]int{
		1: 65536, 1 << 20: 65536, 1 << 21: 65536, 1 << 42: 65536, edge - 1: 65536, edge: 65536, edge + 1: 65535,
		1<<59/65537 + 1: 65534, 1 << 43: 65534, 1 << 50: 510, 1<<50 + 1: 509, 1 << 55: 14, 1<<55 + 1: 13,
		most - 1: 6, most: 6,
	} {
		tells(t, "Subst", with(zeros(2), func(m *api.Model) { m.Subst[2] = -w }), w, long)
		tells(t, "Front", with(zeros(2), func(m *api.Model) { m.Front = w }), w, long)
	}
	for w, long := range map[int]int{most + 1: 5, 1<<59/7 - 1: 5, 1<<59/7 + 1: 4, 1 << 59 / 6: 4, 1<<59/6 + 1: 3, 1 << 59 / 5: 3, 1<<59/5 + 1: 2, 1<<57 - 1: 2, 1 << 57: 2} {
		m := with(zeros(2), func(m *api.Model) { m.Gaps = gaps(w-w/2, w/2) })
		tells(t, "a gap", m, w, long)
	}
}

func TestRange(t *testing.T) {
	m := first()
	ranges(t, m, 0, 0, -10, 0, api.OK)
	ranges(t, m, 0, 4, -30, 0, api.OK)
	ranges(t, m, 4, 0, -30, 0, api.OK)
	ranges(t, m, 5, 3, -50, 15, api.OK)
	ranges(t, m, 1, 1, -20, 5, api.OK)
	ranges(t, m, 65536, 65536, -655370, 327680, api.OK)
	ranges(t, m, 65536, 0, -327690, 0, api.OK)
	ranges(t, m, 0, 65536, -327690, 0, api.OK)
	ranges(t, zeros(2), 3, 2, -7, 2, api.OK)
	great := with(zeros(2), func(m *api.Model) { m.Gaps = gaps(most, most) })
	ranges(t, great, 2, 2, -6<<57, 2<<57, api.OK)
	ranges(t, great, 0, 2, -4<<57, 0, api.OK)
	ranges(t, great, 1, 2, -5<<57, 1<<57, api.OK)
	ranges(t, great, 0, 0, -2<<57, 0, api.OK)
	wide := with(zeros(2), func(m *api.Model) { m.Subst[0] = -1 << 50 })
	ranges(t, wide, 510, 510, -1022<<50, 510<<50, api.OK)
}

// TestRangeRefuses: below 0 is told ahead of too long, in whichever of the two each is.
func TestRangeRefuses(t *testing.T) {
	great := with(zeros(2), func(m *api.Model) { m.Gaps = gaps(most, most) })
	wide := with(zeros(2), func(m *api.Model) { m.Subst[0] = -1 << 50 })
	for _, c := range []struct {
		m    api.Model
		most int
	}{{first(), 65536}, {great, 2}, {wide, 510}, {full(), 65536}} {
		for _, long := range []int{c.most + 1, c.most + 2, math.MaxInt - 2, math.MaxInt - 1, math.MaxInt} {
			for _, other := range []int{0, 1, c.most, long} {
				ranges(t, c.m, long, other, 0, 0, api.ErrTooLong)
				ranges(t, c.m, other, long, 0, 0, api.ErrTooLong)
			}
			for _, below := range []int{-1, -2, math.MinInt} {
				ranges(t, c.m, long, below, 0, 0, api.ErrArg)
				ranges(t, c.m, below, long, 0, 0, api.ErrArg)
			}
		}
		for _, below := range []int{-1, -2, -3, -100000, math.MinInt, math.MinInt + 1} {
			for _, other := range []int{0, 1, c.most, -1, below, math.MinInt} {
				ranges(t, c.m, below, other, 0, 0, api.ErrArg)
				ranges(t, c.m, other, below, 0, 0, api.ErrArg)
			}
		}
	}
}

// roomy is a model whose lists have spare room, all of it filled.
func roomy() api.Model {
	m := full()
	m.Subst = append(append(make([]int, 0, 9), m.Subst...), 501, 502, 503)[:4]
	m.Gaps = append(append(make([]api.Gap, 0, 9), m.Gaps...), api.Gap{Open: 504, Extend: 505}, api.Gap{Open: -1})[:4]
	return m
}

// TestNothingIsChanged: what is handed in is as it was, its spare room too, and that room does not count.
func TestNothingIsChanged(t *testing.T) {
	whole := func(m api.Model) api.Model {
		m.Subst, m.Gaps = m.Subst[:7], m.Gaps[:6]
		return m
	}
	m := roomy()
	tells(t, "roomy", m, 23, 65536)
	ranges(t, m, 3, 5, -230, 69, api.OK)
	ranges(t, m, -3, 5, 0, 0, api.ErrArg)
	ranges(t, m, 3, 65537, 0, 0, api.ErrTooLong)
	if !reflect.DeepEqual(whole(m), whole(roomy())) {
		t.Error("changed", m)
	}
	wrong := with(roomy(), func(m *api.Model) { m.Back = -1 })
	refused(t, "roomy", wrong)
	if wrong.Back = roomy().Back; !reflect.DeepEqual(whole(wrong), whole(roomy())) {
		t.Error("changed", wrong)
	}
}

// TestNilAndEmpty: a list that is nil and one that is empty are the same.
func TestNilAndEmpty(t *testing.T) {
	tells(t, "nil", with(first(), func(m *api.Model) { m.Gaps = nil }), 3, 65536)
	tells(t, "empty", with(first(), func(m *api.Model) { m.Gaps = []api.Gap{} }), 3, 65536)
	refused(t, "nil", api.Model{Mode: api.Local})
	refused(t, "empty", api.Model{Mode: api.Local, Subst: []int{}, Gaps: []api.Gap{}})
}
