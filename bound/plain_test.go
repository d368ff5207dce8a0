package bound_test

import (
	"math"
	"math/big"
	"math/rand/v2"
	"testing"

	"helix/api"
	"helix/bound"
)

// maker makes models of many shapes, by numbers that are the same each time.
type maker struct {
	*rand.Rand
	// wild is how many of a hundred numbers are ones that may not be.
	wild int
}

func newMaker(seed uint64, wild int) *maker {
	return &maker{Rand: rand.New(rand.NewPCG(seed, 10)), wild: wild}
}

// size is a number of 0 to 2^56, of any magnitude, often one at an edge.
func (m *maker) size(bits int) int {
	n := 1 << m.IntN(bits+1)
	switch m.IntN(4) {
	case 0:
		return 0
	case 1:
		return n
	case 2:
		return n - 1
	}
	return m.IntN(n)
}

func (m *maker) from0(bits int) int {
	if m.IntN(100) < m.wild {
		return []int{-1, most + 1, math.MinInt, math.MaxInt, -most}[m.IntN(5)]
	}
	return m.size(bits)
}

func (m *maker) either(bits int) int {
	if m.IntN(100) < m.wild {
		return []int{-most - 1, most + 1, math.MinInt, math.MaxInt, 1 << 57}[m.IntN(5)]
	}
	return m.size(bits) * (1 - 2*m.IntN(2))
}

// off is a number that is, if it is wild, one beside it.
func (m *maker) off(n int) int {
	if m.IntN(100) < m.wild {
		return n - 1 + 2*m.IntN(2)
	}
	return n
}

// model is one whose numbers have at most so many bits.
func (m *maker) model(bits int) api.Model {
	letters := 2 + min(m.IntN(19), m.IntN(19), m.IntN(19))
	if m.IntN(100) < m.wild {
		letters = []int{1, 21, 0, -2}[m.IntN(4)]
	}
	a := api.Model{Letters: letters, Mode: 1 + m.IntN(4)}
	if m.IntN(100) < m.wild {
		a.Mode = []int{0, 5, -1}[m.IntN(3)]
	}
	for range max(0, m.off(letters*letters)) {
		a.Subst = append(a.Subst, m.either(bits))
		m.wild /= 2
	}
	for range m.IntN(5) {
		a.Gaps = append(a.Gaps, api.Gap{Open: m.from0(bits), Extend: m.from0(bits)})
	}
	if m.IntN(100) < m.wild {
		a.Gaps = append(a.Gaps, make([]api.Gap, 4)...)
	}
	if m.IntN(2) == 0 {
		lo, hi := m.either(bits), m.either(bits)
		a.Banded, a.Lo, a.Hi = true, min(lo, hi), max(lo, hi)
	}
	if m.IntN(100) < m.wild {
		a.Lo, a.Hi = a.Hi, a.Lo-m.IntN(2)
	}
	a.Front, a.Back, a.Least = m.from0(bits), m.from0(bits), m.either(bits)
	return a
}

func integer(n int) *big.Int { return big.NewInt(int64(n)) }

// power is 2 to the n.
func power(n uint) *big.Int { return new(big.Int).Lsh(big.NewInt(1), n) }

// plainRight is P10.1, one clause behind the other.
func plainRight(m api.Model) bool {
	inside := func(low, n int) bool {
		return integer(n).Cmp(integer(low)) >= 0 && integer(n).Cmp(power(56)) <= 0
	}
	ok := m.Letters == 2 || m.Letters > 2 && m.Letters < 21
	ok = ok && len(m.Subst)/max(1, m.Letters) == m.Letters && len(m.Subst)%max(1, m.Letters) == 0
	ok = ok && len(m.Gaps) < 5
	ok = ok && (m.Mode == api.Global || m.Mode == api.Fit || m.Mode == api.Local || m.Mode == api.Extend)
	for _, n := range m.Subst {
		ok = ok && inside(-most, n)
	}
	for _, g := range m.Gaps {
		ok = ok && inside(0, g.Open) && inside(0, g.Extend)
	}
	ok = ok && inside(-most, m.Least) && inside(0, m.Front) && inside(0, m.Back)
	if m.Banded {
		return ok && inside(-most, m.Lo) && inside(-most, m.Hi) && !(m.Lo > m.Hi)
	}
	return ok && m.Lo == 0 && m.Hi == 0
}

// plainWidest is P10.2 of a model that is right, in numbers of any size.
func plainWidest(m api.Model) *big.Int {
	w := integer(1)
	wider := func(n *big.Int) {
		if n.CmpAbs(w) > 0 {
			w = new(big.Int).Abs(n)
		}
	}
	for _, n := range m.Subst {
		wider(integer(n))
	}
	for _, g := range m.Gaps {
		wider(new(big.Int).Add(integer(g.Open), integer(g.Extend)))
	}
	wider(integer(m.Front))
	wider(integer(m.Back))
	return w
}

// plainMost is the other half of P10.2.
func plainMost(w *big.Int) *big.Int {
	n := new(big.Int).Div(power(59), w)
	n.Sub(n, integer(2))
	if n.Cmp(integer(65536)) > 0 {
		return integer(65536)
	}
	return n
}

// plainRange is P10.3 of a model that is right.
func plainRange(w, most *big.Int, rows, columns int) (*big.Int, *big.Int, api.Errno) {
	if rows < 0 || columns < 0 {
		return integer(0), integer(0), api.ErrArg
	}
	r, c := integer(rows), integer(columns)
	if r.Cmp(most) > 0 || c.Cmp(most) > 0 {
		return integer(0), integer(0), api.ErrTooLong
	}
	low := new(big.Int).Add(r, c)
	low.Mul(low.Add(low, integer(2)), w).Neg(low)
	if c.Cmp(r) < 0 {
		r = c
	}
	return low, new(big.Int).Mul(r, w), api.OK
}

// againstPlain holds all calls of a model against the plain reading, and tells whether it is right.
func againstPlain(t *testing.T, m api.Model, lengths ...int) bool {
	right := plainRight(m)
	if bound.Right(m) != right {
		t.Fatalf("right %v: %+v", !right, m)
	}
	if !right {
		refused(t, "plain", m)
		return false
	}
	w := plainWidest(m)
	most := plainMost(w)
	tells(t, "plain", m, int(w.Int64()), int(most.Int64()))
	n := int(most.Int64())
	lengths = append(lengths, n, n+1, n/2)
	for _, rows := range lengths {
		for _, columns := range lengths {
			low, high, want := plainRange(w, most, rows, columns)
			lo, hi, e := bound.Range(m, rows, columns)
			if e != want || integer(lo).Cmp(low) != 0 || integer(hi).Cmp(high) != 0 {
				t.Fatalf("%d and %d: %d, %d, %v, not %d, %d, %v: %+v", rows, columns, lo, hi, e, low, high, want, m)
			}
		}
	}
	return true
}

// TestAgainstPlain: models of many shapes, right ones and others, against the plain reading.
func TestAgainstPlain(t *testing.T) {
	rights, wrongs := 0, 0
	for seed := range uint64(6000) {
		k := newMaker(seed, int(seed%4)*3)
		if againstPlain(t, k.model(int(seed)%57), -1, 0, 1, 2, 3, 511, 65536, 65537, math.MaxInt, math.MinInt) {
			rights++
		} else {
			wrongs++
		}
	}
	if rights < 2000 || wrongs < 800 {
		t.Error("of too few shapes", rights, wrongs)
	}
}

// TestWithin2To60: P10.4 of models of many shapes, as it is said.
func TestWithin2To60(t *testing.T) {
	const all = 1 << 60
	within := func(what string, n int, m api.Model) {
		if n < -all || n > all {
			t.Errorf("%s %d: %+v", what, n, m)
		}
	}
	short := 0
	for seed := range uint64(6000) {
		bits := int(seed) % 57
		m := newMaker(seed, 0).model(bits)
		w, e := bound.Widest(m)
		most, f := bound.Most(m)
		if e != api.OK || f != api.OK || most < 2 || most > 65536 || w < 1 {
			t.Fatalf("Widest %d, %v, Most %d, %v: %+v", w, e, most, f, m)
		}
		if bits <= 20 && most != 65536 {
			t.Errorf("Most %d: %+v", most, m)
		}
		if most < 65536 {
			short++
		}
		within("Widest", w, m)
		for _, l := range [][2]int{{0, 0}, {most, most}, {0, most}, {most, 0}, {most / 2, most}} {
			lo, hi, e := bound.Range(m, l[0], l[1])
			if e != api.OK || lo > 0 || hi < 0 {
				t.Fatalf("Range of %v: %d, %d, %v: %+v", l, lo, hi, e, m)
			}
			within("least", lo, m)
			within("greatest", hi, m)
		}
	}
	if short < 500 {
		t.Error("too few models of great numbers", short)
	}
}

// TestMostOfSmallNumbers: at 2^20, at each place and at all of them, Most is 65536.
func TestMostOfSmallNumbers(t *testing.T) {
	const n = 1 << 20
	for _, sign := range []int{1, -1} {
		m := zeros(20)
		for i := range m.Subst {
			m.Subst[i] = sign * n
		}
		m.Gaps = gaps(n, n, n, n, n, n, n, n)
		m.Front, m.Back, m.Least = n, n, sign*n
		m.Banded, m.Lo, m.Hi = true, -n, n
		tells(t, "2^20", m, 2*n, 65536)
		ranges(t, m, 65536, 65536, -2*n*131074, 2*n*65536, api.OK)
	}
}

// walker goes through all paths of two sequences, and asks of each that its score lies in their range.
type walker struct {
	t       *testing.T
	m       api.Model
	x, y    []int
	low     int
	high    int
	columns []byte
	paths   int
}

// cost is the least of all lines.
func (w *walker) cost(k int) int {
	c := math.MaxInt
	for _, g := range w.m.Gaps {
		c = min(c, g.Open+g.Extend*k)
	}
	return c
}

// score is that of the columns from (i, j) on, of which nothing is asked but that they stay in the cells.
func (w *walker) score(i, j int) int {
	s := 0
	if j > 0 {
		s -= w.m.Front
	}
	for at := 0; at < len(w.columns); {
		k := at
		for k < len(w.columns) && w.columns[k] == w.columns[at] {
			switch w.columns[k] {
			case 'M':
				s += w.m.Subst[w.x[i]*w.m.Letters+w.y[j]]
				i, j = i+1, j+1
			case 'D':
				i++
			case 'I':
				j++
			}
			k++
		}
		if w.columns[at] != 'M' {
			s -= w.cost(k - at)
		}
		at = k
	}
	if j < len(w.y) {
		s -= w.m.Back
	}
	return s
}

// walk lays all ways on from (i, j) behind the columns that lead there from the first cell.
func (w *walker) walk(i0, j0, i, j int) {
	w.paths++
	if s := w.score(i0, j0); s < w.low || s > w.high {
		w.t.Fatalf("%s from (%d, %d): %d, not in %d, %d: %+v, %v, %v", w.columns, i0, j0, s, w.low, w.high, w.m, w.x, w.y)
	}
	on := func(column byte, i, j int) {
		if i > len(w.x) || j > len(w.y) || column != 'M' && len(w.m.Gaps) == 0 {
			return
		}
		w.columns = append(w.columns, column)
		w.walk(i0, j0, i, j)
		w.columns = w.columns[:len(w.columns)-1]
	}
	on('M', i+1, j+1)
	on('D', i+1, j)
	on('I', i, j+1)
}

// TestPathsLieInRange: each path from any cell to any cell, which all legal ones of any mode are among, is worth no more and no less than the range says.
func TestPathsLieInRange(t *testing.T) {
	paths := 0
	for seed := range uint64(300) {
		k := newMaker(seed, 0)
		m := k.model(int(seed) % 57)
		longest, _ := bound.Most(m)
		w := walker{t: t, m: m}
		for range k.IntN(min(3, longest) + 1) {
			w.x = append(w.x, k.IntN(m.Letters))
		}
		for range k.IntN(min(3, longest) + 1) {
			w.y = append(w.y, k.IntN(m.Letters))
		}
		w.low, w.high, _ = bound.Range(m, len(w.x), len(w.y))
		for i := range len(w.x) + 1 {
			for j := range len(w.y) + 1 {
				w.walk(i, j, i, j)
			}
		}
		paths += w.paths
	}
	if paths < 10000 {
		t.Error("too few paths", paths)
	}
}
