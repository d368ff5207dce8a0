package verify_test

import (
	"math"
	"reflect"
	"slices"
	"testing"

	"helix/api"
	"helix/verify"
)

// copied has memory of its own.
func copied(c api.Code) api.Code {
	c.Table, c.Consts, c.Cell, c.Arrows = slices.Clone(c.Table), slices.Clone(c.Consts), slices.Clone(c.Cell), slices.Clone(c.Arrows)
	return c
}

// held holds Check to the plain reading, and tells what it tells.
func held(t *testing.T, c api.Code) (int, api.Errno) {
	t.Helper()
	at, e := plainCheck(c)
	if k, got := verify.Check(c); k != at || got != e {
		t.Fatalf("V1: %+v: %d, %v, not %d, %v", c, k, got, at, e)
	}
	return at, e
}

// many makes codes that may run, such codes with something turned, and some of any instructions.
func many(seed uint64) api.Code {
	m := newMaker(seed)
	c := m.code()
	if m.IntN(4) == 0 {
		m.widen(c)
	}
	for range one(m, 0, 1, 1, 1, 2, 3, 8) {
		m.turn(&c)
	}
	if m.IntN(10) == 0 {
		c.Cell = c.Cell[:m.IntN(len(c.Cell)+1)]
	}
	return c
}

// Codes of many shapes are held to the plain reading.
func TestManyCodes(t *testing.T) {
	count := map[api.Errno]int{}
	ways := 0
	for seed := range uint64(40000) {
		at, e := held(t, many(seed))
		count[e]++
		if e == api.ErrVerifyWay && at >= 0 {
			ways++
		}
	}
	for _, e := range []api.Errno{api.OK, api.ErrVerifyRef, api.ErrVerifyUse, api.ErrVerifyStore, api.ErrVerifyWay, api.ErrVerifyWide} {
		if count[e] < 900 {
			t.Error("of too few kinds", e, count)
		}
	}
	if ways < 900 {
		t.Error("of too few kinds: ways", ways)
	}
}

// What the maker makes may run: so nothing that is right is refused.
func TestMade(t *testing.T) {
	for seed := range uint64(5000) {
		c := newMaker(seed).code()
		if at, e := held(t, c); at != -1 || e != api.OK {
			t.Fatalf("V1: %+v: %d, %v", c, at, e)
		}
	}
}

// Numbers just as great as may be, and one more, of codes of many shapes.
func TestManyWidths(t *testing.T) {
	count := map[api.Errno]int{}
	for seed := range uint64(10000) {
		m := newMaker(seed)
		c := m.code()
		c.Most = 65536 >> m.IntN(16)
		m.widen(c)
		_, e := held(t, c)
		count[e]++
	}
	if count[api.OK] < 2000 || count[api.ErrVerifyWide] < 2000 {
		t.Error("of too few kinds", count)
	}
}

// All short codes of some instructions: behind each that nothing is wrong with stands each other one.
func TestAllShort(t *testing.T) {
	c := example(t)
	c.Arrows[1].Step = api.StepD
	c.Most, c.Table[0], c.Consts[0] = 3, (1<<62)/8/2, -(1<<62)/8/2 // W may be 2, and not 3
	all := cell(t, `none r0; none r1; start r0 c0 any; load r0 p0 M; load r1 p0 M; load r1 p1 D; load r1 p0 here; add r0 c0; table r1;
		meet r0 r1 b0; meet r0 r1 b1; meet r1 r0 b0; meet r0 r0 b0; keep p0 r0; keep p1 r0; keep p1 r1; end p1 c0 any`)
	count := map[api.Errno]int{}
	var follow func(left int)
	follow = func(left int) {
		at, e := held(t, c)
		count[e]++
		if at >= 0 || left == 0 {
			return
		}
		for _, in := range all {
			c.Cell = append(c.Cell, in)
			follow(left - 1)
			c.Cell = c.Cell[:len(c.Cell)-1]
		}
	}
	c.Cell = nil
	follow(4)
	c.Cell = cell(t, "none r0; keep p0 r0; load r1 p0 M; meet r0 r1 b0")
	follow(4)
	c.Cell = cell(t, "start r0 c0 any; keep p0 r0; none r0; load r1 p0 M; meet r0 r1 b0; table r0; load r1 p1 D")
	follow(3)
	c.Cell = cell(t, "none r0; keep p0 r0; keep p1 r0")
	follow(3)
	if len(count) != 5 { // all that is named is there
		t.Error("of too few kinds", count)
	}
}

// V3: of the instructions ahead of one that is wrong none is, and behind them it is just so.
func TestPrefixes(t *testing.T) {
	tried := 0
	for seed := range uint64(10000) {
		c := many(seed)
		at, e := verify.Check(c)
		if at < 0 {
			continue
		}
		tried++
		whole := c.Cell
		for k := range at + 1 {
			c.Cell = whole[:k]
			if at, e := verify.Check(c); at != -1 {
				t.Fatalf("V3: %+v: %d, %v", c, at, e)
			}
		}
		for k := at + 1; k <= len(whole); k++ {
			c.Cell = whole[:k]
			if at2, e2 := verify.Check(c); at2 != at || e2 != e {
				t.Fatalf("V3: %+v: %d, %v, not %d, %v", c, at2, e2, at, e)
			}
		}
	}
	if tried < 3000 {
		t.Error("of too few kinds", tried)
	}
}

// registers are the fields of a code that name them.
func registers(c api.Code) []*int {
	var l []*int
	for k := range c.Cell {
		in := &c.Cell[k]
		if in.Op <= api.OpMeet {
			l = append(l, &in.A)
		}
		if in.Op == api.OpMeet || in.Op == api.OpKeep {
			l = append(l, &in.B)
		}
	}
	return l
}

// V3: other numbers of registers, and another order of arrows, change nothing.
func TestOtherNames(t *testing.T) {
	tried := map[api.Errno]int{}
	for seed := range uint64(20000) {
		m := newMaker(seed)
		c := many(seed)
		at, e := verify.Check(c)
		m.Shuffle(len(c.Arrows), func(i, j int) { c.Arrows[i], c.Arrows[j] = c.Arrows[j], c.Arrows[i] })
		if at2, e2 := verify.Check(c); at2 != at || e2 != e {
			t.Fatalf("V3: arrows: %+v: %d, %v, not %d, %v", c, at2, e2, at, e)
		}
		names := registers(c)
		if slices.ContainsFunc(names, func(r *int) bool { return *r >= c.Regs }) {
			continue
		}
		tried[e]++
		other := m.Perm(c.Regs)
		for _, r := range names {
			*r = other[*r]
		}
		if at2, e2 := verify.Check(c); at2 != at || e2 != e {
			t.Fatalf("V3: registers: %+v: %d, %v, not %d, %v", c, at2, e2, at, e)
		}
	}
	for _, e := range []api.Errno{api.OK, api.ErrVerifyRef, api.ErrVerifyUse, api.ErrVerifyStore, api.ErrVerifyWay, api.ErrVerifyWide} {
		if tried[e] < 100 {
			t.Error("of too few kinds", e, tried)
		}
	}
}

// Used, of codes of many shapes, which may run or not, at all places.
func TestManyUsed(t *testing.T) {
	for seed := range uint64(3000) {
		c := many(seed)
		for at := -2; at <= len(c.Cell)+2; at++ {
			want, e := plainUsed(c, at)
			if l, got := verify.Used(c, at); !slices.Equal(l, want) || got != e {
				t.Fatalf("V2: Used(%+v, %d): %v, %v, not %v, %v", c, at, l, got, want, e)
			}
		}
	}
}

// V2 and V1 say the same of what is written: what Used tells may be read there, what it does not may not.
func TestUsedMayBeRead(t *testing.T) {
	for seed := range uint64(1000) {
		c := newMaker(seed).code()
		whole := c.Cell
		for at := range len(whole) + 1 {
			used, _ := verify.Used(c, at)
			for r := range c.Regs {
				d := c
				d.Cell = append(slices.Clone(whole[:at]), api.Instr{Op: api.OpTable, A: r})
				k, e := verify.Check(d)
				if may := k == -1; may != slices.Contains(used, r) || !may && (k != at || e != api.ErrVerifyUse) {
					t.Fatalf("V1, V2: %+v, at %d: register %d: %d, %v; used %v", c, at, r, k, e, used)
				}
			}
		}
	}
}

// Any code: each call ends, with ErrVerifyForm just where it is not right (R1).
func TestAnything(t *testing.T) {
	count := map[bool]int{}
	for seed := range uint64(20000) {
		m := newMaker(seed)
		c := many(seed)
		for range m.IntN(3) {
			l := []*int{&c.Letters, &c.Planes, &c.Regs, &c.Lo, &c.Hi, &c.Most, &c.Table[0]}
			for k := range c.Cell {
				l = append(l, &c.Cell[k].Op, &c.Cell[k].A, &c.Cell[k].B, &c.Cell[k].C)
			}
			for k := range c.Arrows {
				l = append(l, &c.Arrows[k].Plane, &c.Arrows[k].Bit, &c.Arrows[k].From, &c.Arrows[k].Step)
			}
			*l[m.IntN(len(l))] = one(m, -1, 0, 1, 2, 8, 9, 10, 15, 16, 17, 65535, 65536, 65537, -65538, 1<<60, 1<<60+1, math.MaxInt, math.MinInt)
		}
		_, e := held(t, c)
		count[e == api.ErrVerifyForm]++
		at := one(m, 0, len(c.Cell), len(c.Cell)+1, -1, m.IntN(len(c.Cell)+1), math.MinInt, math.MaxInt)
		want, e := plainUsed(c, at)
		if l, got := verify.Used(c, at); !slices.Equal(l, want) || got != e {
			t.Fatalf("V2: Used(%+v, %d): %v, %v, not %v, %v", c, at, l, got, want, e)
		}
	}
	if count[true] < 2000 || count[false] < 2000 {
		t.Error("of too few kinds", count)
	}
}

// roomy gives a list spare room that is filled.
func roomy[T any](l []T, fill T) []T {
	return append(append(make([]T, 0, len(l)+3), l...), fill, fill, fill)[:len(l)]
}

// whole is a list with its spare room, copied.
func whole[T any](l []T) []T { return slices.Clone(l[:cap(l)]) }

// lookAt copies all that a code holds, its lists' spare room too.
func lookAt(c api.Code) api.Code {
	c.Table, c.Consts, c.Cell, c.Arrows = whole(c.Table), whole(c.Consts), whole(c.Cell), whole(c.Arrows)
	return c
}

// What is handed in is not changed, nor its spare room (R5), nor does an answer hang on what was asked ahead (R6).
func TestHandedInStays(t *testing.T) {
	for seed := range uint64(3000) {
		c := many(seed)
		at, e := verify.Check(copied(c))
		c.Table, c.Consts = roomy(c.Table, 77), roomy(c.Consts, 77)
		c.Cell, c.Arrows = roomy(c.Cell, api.Instr{Op: 77}), roomy(c.Arrows, api.Arrow{Plane: 77})
		before := lookAt(c)
		for range 2 {
			if k, got := verify.Check(c); k != at || got != e {
				t.Fatalf("R6: %+v: %d, %v, not %d, %v", c, k, got, at, e)
			}
			verify.Used(c, len(c.Cell))
		}
		if !reflect.DeepEqual(before, lookAt(c)) {
			t.Fatalf("R5: %+v changed to %+v", before, lookAt(c))
		}
	}
}

// What Used answers is new memory each time (R5).
func TestAnswersApart(t *testing.T) {
	for seed := range uint64(300) {
		c := newMaker(seed).code()
		first, _ := verify.Used(c, len(c.Cell))
		want := slices.Clone(first)
		for k := range first[:cap(first)] {
			first[:cap(first)][k] = 55
		}
		if second, _ := verify.Used(c, len(c.Cell)); !slices.Equal(second, want) {
			t.Fatalf("R5: %v, not %v", second, want)
		}
	}
}

// A nil list and an empty one are the same (R4).
func TestEmptyLists(t *testing.T) {
	c := example(t)
	c.Consts, c.Cell, c.Arrows = nil, nil, nil
	tells(t, "nil lists", c, -1, api.ErrVerifyStore)
	uses(t, c, 0, nil, api.OK)
	c.Consts, c.Cell, c.Arrows = []int{}, []api.Instr{}, []api.Arrow{}
	tells(t, "empty lists", c, -1, api.ErrVerifyStore)
	uses(t, c, 0, nil, api.OK)
	c.Planes, c.Cell = 1, cell(t, "none r0; keep p0 r0")
	tells(t, "no constant, no arrow", c, -1, api.OK)
}
