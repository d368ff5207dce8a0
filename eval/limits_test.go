package eval_test

import (
	"math"
	"strings"
	"testing"

	"helix/api"
	"helix/eval"
	"helix/recur"
)

const great = 1 << 57

// bare is a right recurrence with one state of matches, of just these numbers.
func bare(numbers ...int) api.Recur {
	r := api.Recur{Letters: 2, Defs: nums(numbers...), Subst: make([]int, 4), Begin: 1, End: 1}
	r.States = []api.State{state(1, -1, -1, 0, -1)}
	return r
}

func TestWrongRecurrences(t *testing.T) {
	refused(t, "nothing", api.Recur{}, nil, nil, api.ErrRecur)
	for what, change := range map[string]func(r *api.Recur){
		"one letter":         func(r *api.Recur) { r.Letters, r.Subst = 1, make([]int, 1) },
		"21 letters":         func(r *api.Recur) { r.Letters, r.Subst = 21, make([]int, 441) },
		"letters below 0":    func(r *api.Recur) { r.Letters = -2 },
		"too many letters":   func(r *api.Recur) { r.Letters = math.MaxInt },
		"no Subst":           func(r *api.Recur) { r.Subst = nil },
		"a long Subst":       func(r *api.Recur) { r.Subst = make([]int, 5) },
		"Subst outside":      func(r *api.Recur) { r.Subst[3] = 2 },
		"Subst below":        func(r *api.Recur) { r.Subst[0] = -1 },
		"no Defs":            func(r *api.Recur) { r.Defs = nil },
		"a wrong Op":         func(r *api.Recur) { r.Defs[0].Op = 8 },
		"too great a number": func(r *api.Recur) { r.Defs[0].Num = great + 1 },
		"5005 Defs":          func(r *api.Recur) { r.Defs = make([]api.Def, 5005) },
		"no Begin":           func(r *api.Recur) { r.Begin = 0 },
		"no End":             func(r *api.Recur) { r.End = 4 },
		"Front outside":      func(r *api.Recur) { r.Front = 2 },
		"Back outside":       func(r *api.Recur) { r.Back = -1 },
		"Front below 0":      func(r *api.Recur) { r.Defs[1].Num, r.Front = -1, 1 },
		"Back below 0":       func(r *api.Recur) { r.Defs[1].Num, r.Back = -1, 1 },
		"a band turned":      func(r *api.Recur) { r.Banded, r.Lo = true, 1 },
		"a band of none":     func(r *api.Recur) { r.Hi = 1 },
		"a wrong Kind":       func(r *api.Recur) { r.States[0].Kind = 4 },
		"no Kind":            func(r *api.Recur) { r.States[0].Kind = 0 },
		"ten states":         func(r *api.Recur) { r.States = append(r.States, make([]api.State, 9)...) },
		"a Cost outside":     func(r *api.Recur) { r.States[0].From[0].Cost = 2 },
		"a Cost below":       func(r *api.Recur) { r.States[0].From[0].Cost = -2 },
		"a State outside":    func(r *api.Recur) { r.States[0].From[1].State = 1 },
		"a State below":      func(r *api.Recur) { r.States[0].From[0].State = -2 },
		"edges that fall":    func(r *api.Recur) { r.States[0] = state(1, 0, -1, -1, -1) },
		"edges alike":        func(r *api.Recur) { r.States[0] = state(1, 0, -1, 0, -1) },
	} {
		r := bare(0, 1)
		change(&r)
		if recur.Right(r) {
			t.Fatal("the test's own recurrence is right:", what)
		}
		// It comes ahead of all that is wrong with the sequences.
		refused(t, what, r, nil, nil, api.ErrRecur)
		refused(t, what, r, []int{7}, make([]int, 65537), api.ErrRecur)
		refused(t, what, r, make([]int, 2000), make([]int, 2000), api.ErrRecur)
	}
}

func TestWrongLetters(t *testing.T) {
	r := bare(0)
	for _, wrong := range []int{2, 3, -1, math.MinInt, math.MaxInt, 1 << 32} {
		for at := range 3 {
			x := make([]int, 3)
			x[at] = wrong
			refused(t, "of x", r, x, make([]int, 3), api.ErrSymbol)
			refused(t, "of y", r, make([]int, 3), x, api.ErrSymbol)
			refused(t, "of y alone", r, nil, x, api.ErrSymbol)
		}
	}
	// It comes ahead of lengths, wherever it stands.
	long := make([]int, 70000)
	long[69999] = 2
	refused(t, "of a long one", r, long, nil, api.ErrSymbol)
	refused(t, "of two long ones", r, make([]int, 70000), long, api.ErrSymbol)
	refused(t, "of a great number", bare(great), make([]int, 29), []int{2}, api.ErrSymbol)
	refused(t, "of many cells", r, make([]int, 2000), long[69998-2000:], api.ErrSymbol)
	r.Letters, r.Subst = 20, make([]int, 400)
	tells(t, r, []int{19, 0}, []int{0, 19}, 0, from(0, 0, "MM"))
	refused(t, "20 of 20", r, []int{20}, nil, api.ErrSymbol)
}

// fits asks that sequences are taken.
func fits(t *testing.T, what string, r api.Recur, rows, columns int) {
	t.Helper()
	if _, e := eval.Score(r, make([]int, rows), make([]int, columns)); e != api.OK && e != api.ErrNoAlignment {
		t.Errorf("%s: %d and %d letters: %v", what, rows, columns, e)
	}
	if _, _, e := eval.Value(r, make([]int, rows), make([]int, columns), -1, 0, 0); e != api.OK {
		t.Errorf("%s: %d and %d letters: %v", what, rows, columns, e)
	}
}

// The longest sequences, and the most cells.
func TestLengths(t *testing.T) {
	r := bare(0)
	r.Defs, r.Subst = nums(0, 1), []int{1, 0, 0, 1}
	gap := all(1, 1, state(2, -1, 1, 0, 1), state(3, -1, 1, 1, 1))
	gap.Defs = nums(0, 1)
	tells(t, gap, make([]int, 65536), nil, -65536, from(0, 0, strings.Repeat("D", 65536)))
	tells(t, gap, nil, make([]int, 65536), -65536, from(0, 0, strings.Repeat("I", 65536)))
	refused(t, "a long x", gap, make([]int, 65537), nil, api.ErrTooLong)
	refused(t, "a long y", gap, nil, make([]int, 65537), api.ErrTooLong)
	refused(t, "long, and of many cells", gap, make([]int, 65537), make([]int, 65537), api.ErrTooLong)
	refused(t, "long, and of many cells", gap, make([]int, 65537), make([]int, 16), api.ErrTooLong)
	refused(t, "many cells", gap, make([]int, 65536), make([]int, 65536), api.ErrCells)

	tells(t, r, make([]int, 1023), make([]int, 1023), 1023, from(0, 0, strings.Repeat("M", 1023)))
	refused(t, "a row more", r, make([]int, 1024), make([]int, 1023), api.ErrCells)
	refused(t, "a column more", r, make([]int, 1023), make([]int, 1024), api.ErrCells)
	fits(t, "65536 times 16", r, 65535, 15)
	fits(t, "16 times 65536", r, 15, 65535)
	fits(t, "65537 times 15", r, 65536, 14)
	refused(t, "65537 times 16", r, make([]int, 65536), make([]int, 15), api.ErrCells)
	refused(t, "16 times 65537", r, make([]int, 15), make([]int, 65536), api.ErrCells)
	fits(t, "1023 times 1025", r, 1022, 1024)
	refused(t, "1024 times 1025", r, make([]int, 1023), make([]int, 1024), api.ErrCells)
}

// wide are recurrences whose greatest number, without its sign, is this one, wherever it stands.
func wide(n int) map[string]api.Recur {
	l := map[string]api.Recur{}
	for what, change := range map[string]func(r *api.Recur){
		"Front":           func(r *api.Recur) { r.Front = 1 },
		"Back":            func(r *api.Recur) { r.Back = 1 },
		"Subst":           func(r *api.Recur) { r.Subst[0] = 1 },
		"the last Subst":  func(r *api.Recur) { r.Subst[3] = 1 },
		"Subst below 0":   func(r *api.Recur) { r.Subst[2] = 2 },
		"a Cost":          func(r *api.Recur) { r.States[0].From[0].Cost = 1 },
		"a Cost below 0":  func(r *api.Recur) { r.States[0].From[0].Cost = 2 },
		"the last Cost":   func(r *api.Recur) { r.States = append(r.States, state(2), state(3, -1, 0, 2, 1)) },
		"the last, below": func(r *api.Recur) { r.States = append(r.States, state(2), state(3, 0, 0, 1, -1, 2, 2)) },
	} {
		r := bare(0, n, -n, 1, -1)
		r.Subst[1] = 4
		change(&r)
		l[what] = r
	}
	return l
}

// How long sequences may be by the numbers, whichever of them is the greatest.
func TestLengthsByNumbers(t *testing.T) {
	for _, c := range []struct{ number, letters int }{
		{great, 28}, {great - 1, 28}, {great/2 + 1, 59}, {great / 2, 60}, {great / 4, 124},
		{1 << 62 / 33, 29}, {1<<62/33 + 1, 28}, {1 << 62 / 100, 96}, {1<<62/100 + 1, 95}, {1 << 62 / 1000, 996}, {1<<62/1000 + 1, 995},
	} {
		for what, r := range wide(c.number) {
			n := c.letters
			for _, rows := range []int{0, 1, n / 2, n - 1, n} {
				if plainTooLong(r, rows, n-rows) || !plainTooLong(r, rows, n+1-rows) {
					t.Fatal("the test's own number is not so", c, what)
				}
				fits(t, what, r, rows, n-rows)
				refused(t, what, r, make([]int, rows), make([]int, n+1-rows), api.ErrTooLong)
				refused(t, what, r, make([]int, n+1-rows), make([]int, rows), api.ErrTooLong)
			}
		}
	}
	// It comes ahead of the cells.
	refused(t, "great, and many cells", wide(great)["Back"], make([]int, 2000), make([]int, 2000), api.ErrTooLong)
	// Numbers that stand nowhere do not count, nor do a band's.
	r := bare(0, great, -great)
	r.Banded, r.Lo, r.Hi = true, -1<<62, 1<<62
	tells(t, r, make([]int, 500), make([]int, 500), 0, from(0, 0, strings.Repeat("M", 500)))
	made := bare(0, great, -great)
	made.Defs = append(made.Defs, api.Def{Op: api.DefAdd, A: 1, B: 2})
	made.Subst[0] = 3
	tells(t, made, make([]int, 500), make([]int, 500), 0, from(0, 0, strings.Repeat("M", 500)))
}

// No number goes round where sequences are as long as may be.
func TestGreatestNumbers(t *testing.T) {
	r := bare(0, great, -great)
	x, y := make([]int, 14), make([]int, 14)
	r.Subst, r.States = []int{1, 1, 1, 1}, []api.State{state(1, -1, 2, 0, 2)}
	tells(t, r, x, y, 28*great, from(0, 0, strings.Repeat("M", 14)))
	r.Subst, r.States = []int{2, 2, 2, 2}, []api.State{state(1, -1, 1, 0, 1)}
	tells(t, r, x, y, -28*great, from(0, 0, strings.Repeat("M", 14)))
	// With Front and Back: nine states in a row make nine columns.
	r.Begin, r.End, r.Front, r.Back, r.Banded, r.Lo, r.Hi = 3, 3, 1, 1, true, 1, 1
	tells(t, r, make([]int, 13), make([]int, 15), -2*great, from(0, 1, ""))
	r.States = nil
	for k := range 9 {
		r.States = append(r.States, state(1, k-1, 1))
	}
	has(t, r, make([]int, 9), make([]int, 19), 8, 9, 10, -19*great)
	hasNone(t, r, make([]int, 9), make([]int, 19), 8, 8, 9)
	r.States = []api.State{state(2, -1, 1, 0, 1), state(3, -1, 1, 1, 1)}
	r.Banded, r.Lo, r.Hi, r.Begin, r.End = false, 0, 0, 1, 1
	tells(t, r, make([]int, 28), nil, -28*great, from(0, 0, strings.Repeat("D", 28)))
	tells(t, r, nil, make([]int, 28), -28*great, from(0, 0, strings.Repeat("I", 28)))
	r.End = 3
	tells(t, r, nil, make([]int, 28), -great, api.Path{})
}
