package machine_test

import (
	"math"
	"math/big"
	"math/bits"
	"reflect"
	"slices"
	"sync"
	"testing"

	"helix/api"
	"helix/check"
	"helix/eval"
	"helix/machine"
	"helix/recur"
	"helix/syntax"
	"helix/verify"
)

// made are a code that may run, and two sequences.
func made(seed uint64) (api.Code, []int, []int) {
	m := newMaker(seed)
	c := m.code()
	return c, m.letters(c, m.IntN(7)), m.letters(c, m.IntN(7))
}

// Codes of many shapes are held to the plain reading.
func TestManyRuns(t *testing.T) {
	count := map[string]int{}
	for seed := range uint64(15000) {
		c, x, y := made(seed)
		p := plainRun(c, x, y)
		r, e := machine.Run(c, x, y)
		if e != api.OK {
			t.Fatalf("M1: %+v: %v", c, e)
		}
		held(t, r, p)
		_, _, _, planes, ok := r.Best()
		switch {
		case !ok:
			count["no end"]++
		case len(planes) > 1:
			count["ends of planes"]++
		}
		if len(p.ends) > 1 && p.cells() > 5 {
			count["many"]++
		}
		if bothWays(r) {
			count["both ways"]++
		}
	}
	for _, kind := range []string{"no end", "ends of planes", "many", "both ways"} {
		if count[kind] < 200 {
			t.Error("of too few kinds", kind, count)
		}
	}
}

// bothWays tells whether a plane has come by several ways somewhere.
func bothWays(r *machine.Table) bool {
	rows, columns := r.Size()
	for plane := 1; plane < r.Planes(); plane++ {
		for i := range rows + 1 {
			for j := range columns + 1 {
				if bits.OnesCount(uint(r.Mask(plane, i, j))) > 1 {
					return true
				}
			}
		}
	}
	return false
}

// Longer sequences too, of very unlike lengths.
func TestLongRuns(t *testing.T) {
	for seed := range uint64(60) {
		m := newMaker(seed)
		c := m.code()
		c.Most = 100
		ran(t, c, m.letters(c, m.IntN(40)), m.letters(c, m.IntN(40)))
		ran(t, c, m.letters(c, 100), m.letters(c, m.IntN(3)))
		ran(t, c, m.letters(c, m.IntN(3)), m.letters(c, 100))
	}
}

// M5: what planes have at a cell is the same over the sequences cut behind it.
func TestPrefixes(t *testing.T) {
	for seed := range uint64(400) {
		c, x, y := made(seed)
		r, _ := machine.Run(c, x, y)
		for i := range len(x) + 1 {
			for j := range len(y) + 1 {
				cut, e := machine.Run(c, x[:i], y[:j])
				if e != api.OK {
					t.Fatal(e)
				}
				for plane := range c.Planes {
					n, has := r.Value(plane, i, j)
					n2, has2 := cut.Value(plane, i, j)
					if n != n2 || has != has2 || r.Mask(plane, i, j) != cut.Mask(plane, i, j) {
						t.Fatalf("M5: %+v, %v, %v: plane %d at (%d, %d): %d, %v, cut %d, %v", c, x, y, plane, i, j, n, has, n2, has2)
					}
				}
			}
		}
	}
}

// widen gives a code the greatest numbers with which it may run, found by asking verify.
func (m maker) widen(c *api.Code) {
	least, past := 1, 1<<60+1
	put := func(n int) {
		for k := range c.Table {
			c.Table[k] = n * (1 - 2*(k%3/2))
		}
		for k := range c.Consts {
			c.Consts[k] = n
		}
	}
	for past-least > 1 {
		half := least + (past-least)/2
		put(half)
		if _, e := verify.Check(*c); e == api.OK {
			least = half
		} else {
			past = half
		}
	}
	put(least * one(m, -1, 1))
}

// M5: no number is above 2^62, or below its opposite, though the code's are as great as may be.
func TestWidest(t *testing.T) {
	limit := new(big.Int).Lsh(big.NewInt(1), 62)
	great := new(big.Int).Lsh(big.NewInt(1), 60)
	near := 0
	for seed := range uint64(1500) {
		m := newMaker(seed)
		c := m.code()
		c.Most = m.IntN(5)
		m.widen(&c)
		x, y := m.letters(c, c.Most), m.letters(c, c.Most)
		p := plainRun(c, x, y)
		if p.widest.Cmp(limit) > 0 {
			t.Fatalf("M5: %+v, %v, %v: %v", c, x, y, p.widest)
		}
		if p.widest.Cmp(great) > 0 {
			near++
		}
		ran(t, c, x, y)
	}
	if near < 100 {
		t.Error("of too few kinds", near)
	}
}

// The greatest sums: each cell of a way along two sides adds as much as may be, on either side of 0; without an end W is 1, with one it is 2.
func TestWidestWay(t *testing.T) {
	for _, most := range []int{1, 5, 500} {
		for _, sign := range []int{1, -1} {
			c := wide(t, 2, `start r0 c0 corner; keep p0 r0; none r0; load r1 p0 D; meet r0 r1 b0; load r1 p1 D; meet r0 r1 b1; load r1 p1 I; meet r0 r1 b2; add r0 c0; keep p1 r0`,
				arrow(1, 0, 0, 2), arrow(1, 1, 1, 2), arrow(1, 2, 1, 3))
			n := sign * min((1<<62)/(2*most+2), 1<<60)
			c.Consts, c.Most = []int{n}, most
			r, e := machine.Run(c, make([]int, most), make([]int, most))
			if e != api.OK {
				t.Fatal(e)
			}
			if sum, _ := r.Value(1, most, most); sum != n*(2*most+1) {
				t.Errorf("M5: %d, of %d letters: %d", n, most, sum)
			}
			c.Consts[0] /= 2
			c.Cell = append(c.Cell, api.Instr{Op: api.OpEnd, A: 1, C: api.WhereCorner})
			r, _ = machine.Run(c, make([]int, most), make([]int, most))
			best(t, "a long way", r, c.Consts[0]*(2*most+2), most, most, 1)
		}
	}
}

// Any numbers of planes and cells: what is not there has nothing (R1, M2).
func TestNoSuchCell(t *testing.T) {
	r := over(t, wide(t, 2, "start r0 c1 any; meet r0 r0 b1; keep p0 r0; none r0; load r1 p0 M; meet r0 r1 b0; keep p1 r0", arrow(1, 0, 0, 1)))
	numbers := []int{math.MinInt, math.MinInt + 1, -1 << 32, -3, -2, -1, 0, 1, 2, 3, 4, 5, 11, 12, 1 << 32, 1 << 62, math.MaxInt - 1, math.MaxInt}
	there := 0
	for _, plane := range numbers {
		for _, i := range numbers {
			for _, j := range numbers {
				n, has := r.Value(plane, i, j)
				mask := r.Mask(plane, i, j)
				is := plane == 0 && i >= 0 && i <= 2 && j >= 0 && j <= 3 || plane == 1 && i >= 1 && i <= 2 && j >= 1 && j <= 3
				if is {
					there++
				}
				if has != is || is && (n != 7 || mask != 2-plane) || !is && (n != 0 || mask != 0) {
					t.Fatalf("M2: plane %d at (%d, %d): %d, %v, %b", plane, i, j, n, has, mask)
				}
			}
		}
	}
	if there != 12+6 {
		t.Error("of too few kinds", there)
	}
}

// turn changes something of a code.
func (m maker) turn(c *api.Code) {
	in := &c.Cell[m.IntN(len(c.Cell))]
	switch m.IntN(6) {
	case 0:
		c.Most = m.IntN(6)
	case 1:
		one(m, c.Table, c.Consts)[0] = 1 << (30 + m.IntN(31))
	case 2:
		*one(m, &in.A, &in.B, &in.C) = m.IntN(5)
	case 3:
		k := m.IntN(len(c.Cell))
		c.Cell = slices.Insert(c.Cell, k, c.Cell[m.IntN(len(c.Cell))])
	case 4:
		if len(c.Arrows) > 0 {
			a := &c.Arrows[m.IntN(len(c.Arrows))]
			*one(m, &a.Plane, &a.Bit, &a.From, &a.Step) = m.IntN(5)
		}
	default:
		*one(m, &c.Letters, &c.Planes, &c.Regs, &c.Lo, &c.Hi, &c.Most, &c.Table[0], &c.Consts[0], &in.Op, &in.A, &in.B, &in.C) =
			one(m, -1, 0, 0, 1, 1, 2, 3, 4, 5, 8, 9, 10, 15, 16, 17, 65535, 65536, 65537, -65538, 1<<60, 1<<60+1, math.MaxInt, math.MinInt)
	}
}

// plainErrors is M1's.
func plainErrors(c api.Code, x, y []int) api.Errno {
	if _, e := verify.Check(c); e != api.OK {
		return e
	}
	if len(x) > c.Most || len(y) > c.Most {
		return api.ErrTooLong
	}
	for _, n := range slices.Concat(x, y) {
		if n < 0 || n >= c.Letters {
			return api.ErrSymbol
		}
	}
	if (len(x)+1)*(len(y)+1) > 1048576 {
		return api.ErrCells
	}
	return api.OK
}

// Any code and any sequences: each call ends with its error, or with what the plain reading says (R1).
func TestAnything(t *testing.T) {
	count := map[api.Errno]int{}
	for seed := range uint64(40000) {
		c, x, y := made(seed)
		m := newMaker(seed + 1<<32)
		for range one(m, 0, 1, 1, 2, 4) {
			m.turn(&c)
		}
		if l := one(m, x, y); len(l) > 0 && m.IntN(4) == 0 {
			l[m.IntN(len(l))] = one(m, -1, 2, 3, 4, 19, 20, math.MaxInt, math.MinInt)
		}
		e := plainErrors(c, x, y)
		count[e]++
		if e == api.OK {
			ran(t, c, x, y)
		} else {
			fails(t, "anything", c, x, y, e)
		}
	}
	for _, e := range []api.Errno{api.OK, api.ErrVerifyForm, api.ErrVerifyRef, api.ErrVerifyUse, api.ErrVerifyStore, api.ErrVerifyWay, api.ErrVerifyWide, api.ErrTooLong, api.ErrSymbol} {
		if count[e] < 100 {
			t.Error("of too few kinds", e, count)
		}
	}
}

// roomy gives a list spare room that is filled.
func roomy[T any](l []T, fill T) []T {
	return append(append(make([]T, 0, len(l)+3), l...), fill, fill, fill)[:len(l)]
}

// whole is a list with its spare room, copied.
func whole[T any](l []T) []T { return slices.Clone(l[:cap(l)]) }

// roomyCode gives all lists of a code spare room.
func roomyCode(c api.Code) api.Code {
	c.Table, c.Consts, c.Cell, c.Arrows = roomy(c.Table, 77), roomy(c.Consts, 77), roomy(c.Cell, api.Instr{Op: 77}), roomy(c.Arrows, api.Arrow{Plane: 77})
	return c
}

// lookAt copies all that is handed in, its lists' spare room too.
func lookAt(c api.Code, x, y []int) []any {
	c.Table, c.Consts, c.Cell, c.Arrows = whole(c.Table), whole(c.Consts), whole(c.Cell), whole(c.Arrows)
	return []any{c, whole(x), whole(y)}
}

// What is handed in is not changed, nor its spare room, nor is it kept: turned later, it changes nothing that is told (R5).
func TestHandedIn(t *testing.T) {
	for seed := range uint64(2000) {
		c, x, y := made(seed)
		p := plainRun(c, x, y)
		d, u, v := roomyCode(c), roomy(x, 77), roomy(y, 77)
		before := lookAt(d, u, v)
		r, e := machine.Run(d, u, v)
		if e != api.OK {
			t.Fatal(e)
		}
		if !reflect.DeepEqual(before, lookAt(d, u, v)) {
			t.Fatalf("R5: %v changed to %v", before, lookAt(d, u, v))
		}
		for _, l := range [][]int{d.Table, d.Consts, u, v} {
			for k := range l {
				l[k] = 55
			}
		}
		clear(d.Cell)
		clear(d.Arrows)
		held(t, r, p)
	}
}

// What is answered is new memory: turned, with its spare room, it changes nothing that is told later (R5).
func TestAnswersApart(t *testing.T) {
	for seed := range uint64(2000) {
		c, x, y := made(seed)
		r, _ := machine.Run(c, x, y)
		arrows, other := r.Arrows(), r.Arrows()
		_, _, _, planes, _ := r.Best()
		_, _, _, others, _ := r.Best()
		want, wants := slices.Clone(other), slices.Clone(others)
		for k := range arrows[:cap(arrows)] {
			arrows[:cap(arrows)][k].Plane = 55
		}
		for k := range planes[:cap(planes)] {
			planes[:cap(planes)][k] = 55
		}
		if !slices.Equal(other, want) || !slices.Equal(others, wants) {
			t.Fatal("R5: two answers share memory")
		}
		held(t, r, plainRun(c, x, y))
	}
}

// Runs know nothing of one another: tables stay as they are while others are made, one behind the other or at once (M5, R6).
func TestRunsApart(t *testing.T) {
	const many = 300
	tables := make([]*machine.Table, many)
	var all sync.WaitGroup
	for seed := range uint64(many) {
		all.Go(func() {
			c, x, y := made(seed)
			tables[seed], _ = machine.Run(c, x, y)
		})
	}
	all.Wait()
	for seed := range uint64(many) {
		c, x, y := made(seed)
		again := ran(t, c, x, y)
		if !reflect.DeepEqual(again, tables[seed]) {
			t.Fatal("M5: one run is not like the other", seed)
		}
		held(t, tables[seed], plainRun(c, x, y))
	}
}

// A nil list and an empty one are the same (R4).
func TestEmptyLists(t *testing.T) {
	c := wide(t, 1, "none r0; keep p0 r0")
	c.Consts, c.Arrows = nil, nil
	for range 2 {
		for _, l := range [][]int{nil, {}} {
			r := ran(t, c, l, l)
			if len(r.Arrows()) != 0 {
				t.Error("R4: Arrows", r.Arrows())
			}
			noBest(t, "nothing", r)
		}
		c.Consts, c.Arrows = []int{}, []api.Arrow{}
	}
}

// global is DOC.md's scheme E as a code, laid by hand: planes of starts, of M, D, I.
func global(t *testing.T) api.Code {
	t.Helper()
	c := api.Code{Letters: 4, Planes: 4, Regs: 2, Lo: -65536, Hi: 65536, Most: 100, Consts: []int{0, -5, -1}}
	for k := range 16 {
		c.Table = append(c.Table, []int{2, -3, -3, -3, -3}[k%5])
	}
	for p := 1; p < 4; p++ {
		for from := range 4 {
			c.Arrows = append(c.Arrows, arrow(p, from, from, p))
		}
	}
	c.Cell = cell(t, `start r0 c0 corner; keep p0 r0; end p0 c0 corner;
		none r0; load r1 p0 M; meet r0 r1 b0; load r1 p1 M; meet r0 r1 b1; load r1 p2 M; meet r0 r1 b2; load r1 p3 M; meet r0 r1 b3; table r0; keep p1 r0; end p1 c0 corner;
		none r0; load r1 p0 D; add r1 c1; meet r0 r1 b0; load r1 p1 D; add r1 c1; meet r0 r1 b1; load r1 p2 D; add r1 c2; meet r0 r1 b2; load r1 p3 D; add r1 c1; meet r0 r1 b3; keep p2 r0; end p2 c0 corner;
		none r0; load r1 p0 I; add r1 c1; meet r0 r1 b0; load r1 p1 I; add r1 c1; meet r0 r1 b1; load r1 p2 I; add r1 c1; meet r0 r1 b2; load r1 p3 I; add r1 c2; meet r0 r1 b3; keep p3 r0; end p3 c0 corner`)
	return c
}

// A scheme laid by hand finds what its recurrence says: DOC.md's examples 1 to 3, and many sequences.
func TestGlobal(t *testing.T) {
	c := global(t)
	best(t, "ACGT over ACGT", ran(t, c, []int{0, 1, 2, 3}, []int{0, 1, 2, 3}), 8, 4, 4, 1)
	best(t, "ACGT over AGT", ran(t, c, []int{0, 1, 2, 3}, []int{0, 2, 3}), 1, 4, 3, 1)
	best(t, "ACGT over nothing", ran(t, c, []int{0, 1, 2, 3}, nil), -8, 4, 0, 2)
	best(t, "nothing over ACGT", ran(t, c, nil, []int{0, 1, 2, 3}), -8, 0, 4, 3)
	best(t, "nothing over nothing", ran(t, c, nil, nil), 0, 0, 0, 0)
	tree, _ := syntax.Parse(`alphabet "ACGT"; match 2; mismatch -3; gap 4, 1; mode global;`)
	scheme, _ := check.Check(tree)
	steps, _ := recur.Lower(scheme)
	for seed := range uint64(200) {
		m := newMaker(seed)
		x, y := m.letters(c, m.IntN(30)), m.letters(c, m.IntN(30))
		r, e := machine.Run(c, x, y)
		want, e2 := eval.Score(steps, x, y)
		if e != api.OK || e2 != api.OK {
			t.Fatal(e, e2)
		}
		if score, i, j, _, ok := r.Best(); score != want || i != len(x) || j != len(y) || !ok {
			t.Fatalf("M3: %v over %v: %d at (%d, %d), %v, not %d", x, y, score, i, j, ok, want)
		}
	}
}
