package gen_test

import (
	"math"
	"testing"

	"helix/api"
	"helix/eval"
)

const great = 1 << 57

// fullest has as many letters, states and edges as may be, of kinds in turn from one on, and no two of its numbers are alike.
func fullest(kinds ...int) api.Recur {
	r := api.Recur{Letters: 20, Begin: 3, End: 3}
	number := func(n int) int {
		r.Defs = append(r.Defs, nums(n)...)
		return len(r.Defs) - 1
	}
	for k := range 400 {
		r.Subst = append(r.Subst, number(k%7*1000-k))
	}
	r.Front, r.Back = number(501), number(502)
	for k := range 9 {
		s := api.State{Kind: kinds[k%len(kinds)]}
		for from := -1; from < 9; from++ {
			s.From = append(s.From, api.Edge{State: from, Cost: number(600 + 31*(10*k+from+1)%97)})
		}
		r.States = append(r.States, s)
	}
	return r
}

// There is room for all that a recurrence may have.
func TestFullest(t *testing.T) {
	for _, kinds := range [][]int{{1}, {2}, {3}, {1, 2, 3}, {3, 2, 1}, {1, 2}, {1, 3}, {2, 3}, {1, 1, 2, 3, 3}} {
		r := fullest(kinds...)
		for begin := 1; begin <= 3; begin++ {
			for end := 1; end <= 3; end++ {
				r.Begin, r.End = begin, end
				c := made(t, r, 65536)
				if len(c.Table) != 400 {
					t.Fatal(c)
				}
				for seed := range uint64(20) {
					x, y := newMaker(seed).sequences(r, 14)
					says(t, r, c, x, y)
				}
			}
		}
	}
}

// Definitions that stand nowhere do not count: neither how many there are, nor how great their numbers.
func TestIdleDefinitions(t *testing.T) {
	r := of([]int{1}, state(1, -1, -1, 0, 1), state(2, 0, 1, 1, 0))
	plain := made(t, r, 65536)
	for len(r.Defs) < 5004 {
		r.Defs = append(r.Defs, nums(great-len(r.Defs))...)
	}
	if c := made(t, r, 65536); !sameCode(c, plain) {
		t.Errorf("P19.1: of idle definitions: %+v, not %+v", c, plain)
	}
	r.Banded, r.Lo, r.Hi = true, math.MinInt, math.MaxInt
	made(t, r, 65536)
}

// wide are recurrences whose greatest number, without its sign, is this one, wherever it stands.
func wide(n int) map[string]api.Recur {
	l := map[string]api.Recur{}
	for what, change := range map[string]func(r *api.Recur){
		"Front":           func(r *api.Recur) { r.Front = 1 },
		"Back":            func(r *api.Recur) { r.Back = 1 },
		"Subst":           func(r *api.Recur) { r.Subst[0] = 1 },
		"the last Subst":  func(r *api.Recur) { r.Subst[3] = 1 },
		"Subst below 0":   func(r *api.Recur) { r.Subst[2] = 2 },
		"a Cost":          func(r *api.Recur) { r.States[0].From[0].Cost = 1 },
		"a Cost below 0":  func(r *api.Recur) { r.States[0].From[0].Cost = 2 },
		"the last Cost":   func(r *api.Recur) { r.States = append(r.States, state(2), state(3, -1, 0, 2, 1)) },
		"the last, below": func(r *api.Recur) { r.States = append(r.States, state(2), state(3, 0, 0, 1, -1, 2, 2)) },
		"all":             func(r *api.Recur) { *r = greatest(n) },
		"all, the other":  func(r *api.Recur) { *r = greatest(n); r.Defs[1].Num, r.Defs[2].Num = n, -n; r.Front, r.Back = 1, 1 },
	} {
		r := of([]int{n, -n, 1, -1}, state(1, -1, -1, 0, -1))
		r.Subst[1] = 4
		change(&r)
		l[what] = r
	}
	return l
}

// greatest has the greatest number wherever one may stand: a match is worth it, an edge into one brings as much again, a gap costs it.
func greatest(n int) api.Recur {
	r := of([]int{-n, n}, state(1, -1, 1, 0, 1, 1, 1, 2, 1), state(2, -1, 2, 0, 2, 1, 2, 2, 2), state(3, -1, 2, 0, 2, 1, 2, 2, 2))
	r.Front, r.Back, r.Subst = 2, 2, []int{2, 1, 1, 2}
	return r
}

// How long sequences may be by the numbers, whichever of them is the greatest: at that length the code still may run, and tells what it must.
func TestLengthsByNumbers(t *testing.T) {
	for _, c := range []struct{ number, most int }{
		{great, 2}, {great - 1, 2}, {1 << 60 / 9, 2}, {1<<60/10 + 1, 2}, {1 << 60 / 10, 3}, {1<<60/12 + 1, 3}, {1 << 60 / 12, 4},
		{1<<60/204 + 1, 99}, {1 << 60 / 204, 100}, {1 << 50, 510}, {1<<50 - 1, 510}, {1<<50 + 1, 509}, {1 << 44, 32766}, {1 << 44 / 3, 65536},
		{1<<60/131076 + 1, 65535}, {1 << 60 / 131076, 65536}, {1 << 43, 65534}, {1, 65536}, {0, 65536},
	} {
		for what, r := range wide(c.number) {
			code := made(t, r, c.most)
			for seed := range uint64(8) {
				m := newMaker(seed)
				x, y := m.places(min(c.most, m.IntN(9)), 2), m.places(min(c.most, m.IntN(9)), 2)
				says(t, r, code, x, y)
			}
			made(t, r, 0)
			made(t, r, c.most/2)
			if c.most < 65536 {
				refused(t, what, r, c.most+1, api.ErrTooLong)
				refused(t, what, r, 65536, api.ErrTooLong)
			}
		}
	}
}

// Numbers are as great as the promise lets them be, to the last one, and sequences too.
func TestGreatestNumbers(t *testing.T) {
	for _, most := range []int{0, 1, 2, 7, 30, 300} {
		n := min(1<<60/(2*most+4), great)
		for begin := 1; begin <= 3; begin++ {
			for end := 1; end <= 3; end++ {
				r := greatest(n)
				r.Begin, r.End = begin, end
				c := made(t, r, most)
				says(t, r, c, make([]int, most), make([]int, most))
				says(t, r, c, make([]int, most), nil)
				says(t, r, c, nil, make([]int, most))
				ones := make([]int, most)
				for k := range ones {
					ones[k] = 1
				}
				says(t, r, c, make([]int, most), ones)
			}
		}
	}
	r := greatest(great)
	r.Begin, r.End = 1, 1
	// Two matches of a letter each and of an edge each.
	if f, e := says(t, r, made(t, r, 2), []int{0, 1}, []int{0, 1}); e != api.OK || f != (api.Found{Score: 4 * great, Path: api.Path{Columns: "MM"}}) {
		t.Error(f, e)
	}
	if f, e := says(t, r, made(t, r, 2), []int{0, 1}, nil); e != api.OK || f != (api.Found{Score: -2 * great, Path: api.Path{Columns: "DD"}}) {
		t.Error(f, e)
	}
}

// For each length the greatest number that there may be is taken, and the next one is not.
func TestNumbersByLengths(t *testing.T) {
	for most := range 2000 {
		n := 1 << 60 / (2*most + 4)
		if n < great {
			refused(t, "one more", greatest(n+1), most, api.ErrTooLong)
		}
		made(t, greatest(min(n, great)), most)
	}
}

// ErrCells is told just where Eval does.
func TestCells(t *testing.T) {
	r := of([]int{1}, state(1, -1, -1, 0, -1))
	r.Banded, r.Lo, r.Hi = true, -1, 1
	c := made(t, r, 65536)
	for _, l := range []struct {
		x, y int
		want api.Errno
	}{
		{1023, 1023, api.OK}, {1022, 1024, api.OK}, {1024, 1023, api.ErrCells}, {1023, 1024, api.ErrCells}, {65535, 15, api.OK}, {15, 65535, api.OK},
		{65536, 15, api.ErrCells}, {15, 65536, api.ErrCells}, {65536, 14, api.OK}, {65536, 65536, api.ErrCells},
	} {
		x, y := make([]int, l.x), make([]int, l.y)
		if _, e := says(t, r, c, x, y); e != l.want {
			t.Errorf("P19.3: %d and %d letters: %v, not %v", l.x, l.y, e, l.want)
		}
		if l.x > 1000 {
			x[l.x-1] = 2
			if _, e := says(t, r, c, x, y); e != api.ErrSymbol {
				t.Errorf("P19.3: a wrong letter behind %d: %v", l.x, e)
			}
		}
	}
}

// ErrSymbol is told just where Eval does.
func TestWrongLetters(t *testing.T) {
	for _, letters := range []int{2, 3, 20} {
		r := of([]int{1}, state(1, -1, -1, 0, -1), state(3, 0, 1))
		r.Letters, r.Subst = letters, make([]int, letters*letters)
		c := made(t, r, 50)
		says(t, r, c, []int{letters - 1, 0}, []int{0, letters - 1})
		for _, wrong := range []int{letters, letters + 1, -1, math.MinInt, math.MaxInt, 1 << 32} {
			for at := range 3 {
				x := make([]int, 3)
				x[at] = wrong
				for _, l := range [][2][]int{{x, nil}, {nil, x}, {x, make([]int, 3)}, {make([]int, 3), x}, {x, x}} {
					if _, e := says(t, r, c, l[0], l[1]); e != api.ErrSymbol {
						t.Errorf("P19.3: of %d letters: %v, %v: %v", letters, l[0], l[1], e)
					}
				}
			}
		}
	}
}

// Long sequences, through and through.
func TestLongSequences(t *testing.T) {
	r := passed(t, `alphabet "ACGT"; match 2; mismatch -3; gap 4, 1; gap 12, 0; mode global; clip 3, 4;`)
	c := made(t, r, 65536)
	m := newMaker(1)
	x, y := m.places(500, 4), m.places(450, 4)
	copy(y[:200], x[100:])
	copy(y[230:], x[260:470])
	for mode := range 9 {
		r.Begin, r.End = 1+mode/3, 1+mode%3
		c = made(t, r, 65536)
		if f, e := says(t, r, c, x, y); e != api.OK || len(f.Path.Columns) < 200 {
			t.Error(f, e)
		}
	}
	x, y = m.places(20000, 4), m.places(30, 4)
	says(t, r, c, x, y)
	says(t, r, c, y, x)
	if _, e := eval.Eval(r, x, y); e != api.OK {
		t.Error(e)
	}
}
