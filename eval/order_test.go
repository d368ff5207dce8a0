package eval_test

import (
	"strings"
	"testing"

	"helix/api"
	"helix/eval"
	"helix/path"
)

// all is a recurrence of zeros alone: all that it allows is worth the same.
func all(begin, end int, states ...api.State) api.Recur {
	return api.Recur{Letters: 2, Defs: nums(0), Subst: make([]int, 4), Begin: begin, End: end, States: states}
}

// three are a state of each kind, from all, in any order of kinds.
func three(a, b, c int) []api.State {
	return []api.State{state(a, -1, -1, 0, 0, 1, -1, 2, -1), state(b, -1, -1, 0, 0, 1, -1, 2, 0), state(c, -1, 0, 0, 0, 1, -1, 2, -1)}
}

// The end in the lowest row comes first, then the one in the lowest column, then M ahead of D ahead of I from the last column on, then the shorter path; whatever the order of the states.
func TestTheFirstPath(t *testing.T) {
	x, y := seq("010"), seq("10")
	for _, kinds := range [][3]int{{1, 2, 3}, {1, 3, 2}, {2, 1, 3}, {2, 3, 1}, {3, 1, 2}, {3, 2, 1}} {
		s := three(kinds[0], kinds[1], kinds[2])
		tells(t, all(1, 1, s...), x, y, 0, from(0, 0, "DMM"))
		tells(t, all(1, 1, s...), y, x, 0, from(0, 0, "IMM"))
		tells(t, all(1, 2, s...), x, y, 0, from(0, 0, "II"))
		tells(t, all(1, 3, s...), x, y, 0, api.Path{})
		tells(t, all(2, 1, s...), x, y, 0, from(1, 0, "MM"))
		tells(t, all(2, 2, s...), x, y, 0, from(0, 0, "II"))
		tells(t, all(3, 1, s...), x, y, 0, from(3, 2, ""))
		tells(t, all(3, 2, s...), x, y, 0, from(0, 2, ""))
		tells(t, all(3, 3, s...), x, y, 0, api.Path{})
	}
	// D ahead of I, at the last of columns that are unlike.
	gaps := []api.State{state(3, -1, -1, 0, -1, 1, -1), state(2, -1, -1, 0, -1, 1, -1)}
	tells(t, all(1, 1, gaps...), x, y, 0, from(0, 0, "IIDDD"))
	// A path that must have a column: the lowest row, then the lowest column.
	one := []api.State{state(3, -1, -1), state(2, -1, -1), state(1, -1, -1)}
	r := all(1, 3, one...)
	r.Defs, r.Front, r.Back, r.States[0].From[0].Cost, r.States[1].From[0].Cost, r.States[2].From[0].Cost = nums(0, -1), 0, 0, 1, 1, 1
	tells(t, r, x, y, 1, from(0, 0, "I"))
	r.States[0].From[0].Cost = 0
	tells(t, r, x, y, 1, from(0, 0, "D"))
	r.States[1].From[0].Cost = 0
	tells(t, r, x, y, 1, from(0, 0, "M"))
}

// A match from each of both sides of a cell: the columns decide, read from the last, not the states' numbers.
func TestReadFromTheLast(t *testing.T) {
	// Of x of two and y of one letter: DM and MD alone.
	r := all(1, 1, state(2, -1, -1, 1, -1), state(1, -1, -1, 0, -1))
	tells(t, r, seq("00"), seq("0"), 0, from(0, 0, "DM"))
	// MD is better by one.
	r.Defs, r.States[0].From[1].Cost = nums(0, -1), 1
	tells(t, r, seq("00"), seq("0"), 1, from(0, 0, "MD"))
}

// A path without a further column stands ahead of those that go on from where it begins.
func TestTheShorterPath(t *testing.T) {
	r := all(3, 1, state(1, -1, -1, 0, -1))
	tells(t, r, seq("000"), seq("000"), 0, from(3, 3, ""))
	// Two columns are better by one.
	r.Defs = nums(0, -1)
	r.States = []api.State{state(1, 1, 1), state(1, -1, -1)}
	tells(t, r, seq("000"), seq("000"), 1, from(1, 1, "MM"))
	// Now one column is worth as much as two are.
	r.States = []api.State{state(1, 1, 1), state(1, -1, -1), state(1, -1, 1)}
	tells(t, r, seq("000"), seq("000"), 1, from(2, 2, "M"))
	r.States = []api.State{state(1, -1, 1), state(1, -1, -1), state(1, 1, 1)}
	tells(t, r, seq("000"), seq("000"), 1, from(2, 2, "M"))
}

// Several ways of states lead to the same columns: that one of them cannot go on by the least column does not matter.
func TestWaysOfStates(t *testing.T) {
	// States 0 and 1 are matches, and better by one; ahead of 0 there is D, ahead of 1 there is M.
	del, match := state(2, -1, -1, 2, -1, 3, -1), state(1, -1, -1, 3, -1)
	x, y := seq("0000"), seq("00")
	ways := all(2, 1, state(1, 2, 1), state(1, 3, 1), del, match)
	ways.Defs = nums(0, -1)
	tells(t, ways, x, y, 1, from(2, 0, "MM"))
	ways.States = []api.State{state(1, 3, 1), state(1, 2, 1), del, match}
	tells(t, ways, x, y, 1, from(2, 0, "MM"))
	// The way by M alone is worse now.
	ways.States = []api.State{state(1, 2, 1), state(1, 3, 0), del, match}
	tells(t, ways, x, y, 1, from(1, 0, "MDM"))
	// Of unlike worth, for the same columns: the greatest counts.
	ways = all(1, 1, state(1, -1, 1, 0, 1), state(1, -1, 2, 1, -1), state(1, 0, 2, 1, 1))
	ways.Defs = nums(0, 1, 3)
	tells(t, ways, seq("00"), seq("00"), -2, from(0, 0, "MM"))
	has(t, ways, seq("00"), seq("00"), 0, 2, 2, -2)
	has(t, ways, seq("00"), seq("00"), 1, 2, 2, -3)
	has(t, ways, seq("00"), seq("00"), 2, 2, 2, -4)
	tells(t, ways, seq("0000"), seq("0000"), -3, from(0, 0, "MMMM"))
}

// Gaps of several pieces are so many ways for the same columns; deletes and inserts of a path are told in order.
func TestPiecesOfOneCost(t *testing.T) {
	r := lowered(t, `alphabet "AC"; match 3; mismatch -9; gap 2, 1; gap 1, 2; gap 3, 0; mode global;`)
	tells(t, r, seq("0"), seq("1"), -6, from(0, 0, "ID"))
	tells(t, r, seq("00"), seq("11"), -6, from(0, 0, "IIDD"))
	tells(t, r, seq("0101"), seq("01"), 3, from(0, 0, "DDMM"))
	tells(t, r, seq("01"), seq("0101"), 3, from(0, 0, "IIMM"))
	tells(t, r, seq("0111"), seq("01"), 3, from(0, 0, "MDDM"))
}

// reckon is what a path of a recurrence is worth, along it; false, if it is none.
func reckon(r api.Recur, x, y []int, p api.Path) (int, bool) {
	i, j, score := p.I, p.J, 0
	value := func(place int) int { return r.Defs[place].Num }
	if j > 0 {
		score -= value(r.Front)
	}
	in := map[int]int{-1: score}
	for _, c := range []byte(p.Columns) {
		kind := strings.IndexByte(" MDI", c)
		next := map[int]int{}
		for to, s := range r.States {
			if s.Kind != kind {
				continue
			}
			for _, e := range s.From {
				v, ok := in[e.State]
				if !ok {
					continue
				}
				if e.Cost >= 0 {
					v -= value(e.Cost)
				}
				if c == 'M' {
					v += value(r.Subst[r.Letters*x[i]+y[j]])
				}
				if known, ok := next[to]; !ok || v > known {
					next[to] = v
				}
			}
		}
		in = next
		if c != 'I' {
			i++
		}
		if c != 'D' {
			j++
		}
		if r.Banded && (j-i < r.Lo || j-i > r.Hi) {
			return 0, false
		}
	}
	best, found := 0, false
	for _, v := range in {
		if j < len(y) {
			v -= value(r.Back)
		}
		if !found || v > best {
			best, found = v, true
		}
	}
	return best, found
}

// Of longer sequences, of which all paths are too many: the path is one of the recurrence, and worth what is told; none that is a little other, and ahead of it, is worth as much.
func TestLongerPaths(t *testing.T) {
	told := 0
	for seed := range uint64(400) {
		m := newMaker(seed)
		r := m.recur(4)
		for k, v := range plainNumbers(r.Defs) {
			r.Defs[k] = nums(int(v.Int64()))[0]
		}
		if r.Banded {
			r.Lo, r.Hi = 5*r.Lo, 5*r.Hi
		}
		x, y := m.places(m.IntN(60), r.Letters), m.places(m.IntN(60), r.Letters)
		f, e := eval.Eval(r, x, y)
		score, g := eval.Score(r, x, y)
		if e != g || f.Score != score {
			t.Fatal("Eval and Score tell not the same", f, e, score, g)
		}
		if e == api.ErrNoAlignment {
			continue
		}
		told++
		if n, ok := reckon(r, x, y, f.Path); !ok || n != f.Score {
			t.Fatalf("P13.1: the path is worth %d, %v, not %d: %+v of %+v, %v, %v", n, ok, f.Score, f.Path, r, x, y)
		}
		for _, p := range others(f.Path) {
			if n, ok := reckon(r, x, y, p); ok && (n > f.Score || n == f.Score && path.Less(p, f.Path)) {
				t.Fatalf("P13.1: %v is worth %d, and is ahead of %v: %d, of %+v, %v, %v", p, n, f.Path, f.Score, r, x, y)
			}
		}
	}
	if told < 200 {
		t.Error("of too few kinds", told)
	}
}

// others are paths between the same two cells, with two or three columns changed.
func others(p api.Path) []api.Path {
	var l []api.Path
	swaps := [][2]string{{"MD", "DM"}, {"MI", "IM"}, {"DI", "ID"}, {"DI", "M"}, {"ID", "M"}}
	for at := range len(p.Columns) {
		rest := p.Columns[at:]
		for _, s := range swaps {
			for k := range 2 {
				if strings.HasPrefix(rest, s[k]) {
					l = append(l, api.Path{I: p.I, J: p.J, Columns: p.Columns[:at] + s[1-k] + rest[len(s[k]):]})
				}
			}
		}
	}
	return l
}
