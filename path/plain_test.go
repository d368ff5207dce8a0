package path_test

import (
	"math"
	"math/big"
	"math/rand/v2"
	"sort"
	"testing"

	"helix/api"
	"helix/bound"
	"helix/check"
	"helix/path"
	"helix/syntax"
)

// maker makes models, sequences and paths of many shapes, by numbers that are the same each time.
type maker struct {
	*rand.Rand
}

func newMaker(seed uint64) maker {
	return maker{rand.New(rand.NewPCG(seed, 11))}
}

// size is a number from 0 to 2^bits, of any magnitude, often one at an edge.
func (m maker) size(bits int) int {
	n := 1 << m.IntN(bits+1)
	switch m.IntN(4) {
	case 0:
		return 0
	case 1:
		return n
	case 2:
		return n - 1
	}
	return m.IntN(n)
}

func (m maker) either(bits int) int {
	return m.size(bits) * (1 - 2*m.IntN(2))
}

func (m maker) gaps(n, bits int) []api.Gap {
	var l []api.Gap
	for range n {
		l = append(l, api.Gap{Open: m.size(bits), Extend: m.size(bits)})
	}
	return l
}

// model is one that is right, whose numbers have at most so many bits.
func (m maker) model(bits int) api.Model {
	a := api.Model{Letters: 2 + min(m.IntN(19), m.IntN(19), m.IntN(19)), Mode: 1 + m.IntN(4)}
	for range a.Letters * a.Letters {
		a.Subst = append(a.Subst, m.either(bits))
	}
	a.Gaps = m.gaps(min(4, m.IntN(7)), bits)
	if m.IntN(2) == 0 {
		a.Banded, a.Lo, a.Hi = true, -m.IntN(4), m.IntN(4)
		switch m.IntN(8) {
		case 0:
			a.Lo, a.Hi = m.IntN(3), 3+m.IntN(3)
		case 1:
			a.Lo, a.Hi = -3-m.IntN(3), -m.IntN(3)
		}
	}
	a.Front, a.Back, a.Least = m.size(bits), m.size(bits), m.either(bits)
	return a
}

// letters is a sequence of at most so many letters, often of two letters alone.
func (m maker) letters(a api.Model, most int) []int {
	some := a.Letters
	if m.IntN(2) == 0 {
		some = 2
	}
	var l []int
	for range m.IntN(most + 1) {
		l = append(l, m.IntN(some))
	}
	return l
}

// number is any one, often at an edge.
func (m maker) number() int {
	switch m.IntN(6) {
	case 0:
		return math.MaxInt - m.IntN(5)
	case 1:
		return math.MinInt + m.IntN(5)
	case 2:
		return int(m.Uint64())
	}
	return m.IntN(5)
}

// anyPath is one of any columns, from anywhere.
func (m maker) anyPath() api.Path {
	p := api.Path{I: m.number(), J: m.number()}
	for range m.IntN(6) {
		p.Columns += string([]byte{"MDIMDIMDIX\x00\xff"[m.IntN(12)]})
	}
	return p
}

// cell is one by which a path goes.
type cell struct{ i, j int }

// plainCells are a path's, the first and the last one too; none, if a byte is no column, or the beginning is so far off that numbers would go round.
func plainCells(p api.Path) []cell {
	const far = 1 << 40
	if p.I < -far || p.I > far || p.J < -far || p.J > far {
		return nil
	}
	l := []cell{{p.I, p.J}}
	for _, c := range []byte(p.Columns) {
		last := l[len(l)-1]
		switch c {
		case 'M':
			l = append(l, cell{last.i + 1, last.j + 1})
		case 'D':
			l = append(l, cell{last.i + 1, last.j})
		case 'I':
			l = append(l, cell{last.i, last.j + 1})
		default:
			return nil
		}
	}
	return l
}

// plainLegal is the chapter's words of it, one behind the other.
func plainLegal(m api.Model, x, y []int, p api.Path) bool {
	l := plainCells(p)
	if len(l) == 0 {
		return false
	}
	for _, c := range l {
		if c.i < 0 || c.j < 0 || c.i > len(x) || c.j > len(y) {
			return false
		}
		if d := c.j - c.i; m.Banded && (d < m.Lo || d > m.Hi) {
			return false
		}
	}
	for _, c := range []byte(p.Columns) {
		if c != 'M' && len(m.Gaps) == 0 {
			return false
		}
	}
	first, last := l[0], l[len(l)-1]
	corner, end := cell{0, 0}, cell{len(x), len(y)}
	switch m.Mode {
	case api.Global:
		return first == corner && last == end
	case api.Fit:
		return first.j == 0 && last.j == len(y)
	case api.Extend:
		return first == corner
	}
	return true
}

// plainScore is a legal path's, in numbers of any size.
func plainScore(m api.Model, x, y []int, p api.Path) *big.Int {
	l := plainCells(p)
	s := new(big.Int)
	for at, c := range []byte(p.Columns) {
		to := l[at+1]
		if c == 'M' {
			s.Add(s, big.NewInt(int64(m.Subst[m.Letters*x[to.i-1]+y[to.j-1]])))
			continue
		}
		if at > 0 && p.Columns[at-1] == c {
			continue
		}
		k := 1
		for at+k < len(p.Columns) && p.Columns[at+k] == c {
			k++
		}
		s.Sub(s, plainCost(k, m.Gaps...))
	}
	if l[0].j > 0 {
		s.Sub(s, big.NewInt(int64(m.Front)))
	}
	if l[len(l)-1].j < len(y) {
		s.Sub(s, big.NewInt(int64(m.Back)))
	}
	return s
}

// onFrom hands on all paths that begin as p does, and stay in the cells, whether they are legal or not.
func onFrom(p api.Path, i, j int, x, y []int, hand func(api.Path)) {
	hand(p)
	if i < len(x) && j < len(y) {
		onFrom(from(p.I, p.J, p.Columns+"M"), i+1, j+1, x, y, hand)
	}
	if i < len(x) {
		onFrom(from(p.I, p.J, p.Columns+"D"), i+1, j, x, y, hand)
	}
	if j < len(y) {
		onFrom(from(p.I, p.J, p.Columns+"I"), i, j+1, x, y, hand)
	}
}

// plainAll are all legal paths, in order, by asking all that stay in the cells.
func plainAll(m api.Model, x, y []int) []api.Path {
	type keyed struct {
		key
		p api.Path
	}
	var all []keyed
	for i := range len(x) + 1 {
		for j := range len(y) + 1 {
			onFrom(from(i, j, ""), i, j, x, y, func(p api.Path) {
				if plainLegal(m, x, y, p) {
					all = append(all, keyed{keyOf(p), p})
				}
			})
		}
	}
	sort.Slice(all, func(a, b int) bool { return all[a].ahead(all[b].key) })
	var paths []api.Path
	for _, k := range all {
		paths = append(paths, k.p)
	}
	return paths
}

// againstPlain holds All, Best, Legal and Score of one model and two sequences against the plain reading, and tells how many paths there are.
func againstPlain(t *testing.T, m api.Model, x, y []int) int {
	t.Helper()
	want := plainAll(m, x, y)
	got, e := path.All(m, x, y)
	if e != api.OK || len(got) != len(want) {
		t.Fatalf("%d paths, %v, not %d: %+v, %v, %v", len(got), e, len(want), m, x, y)
	}
	low, high, e := bound.Range(m, len(x), len(y))
	if e != api.OK {
		t.Fatal(e)
	}
	var best api.Found
	for at, p := range want {
		if got[at] != p {
			t.Fatalf("%v, not %v, at %d: %+v, %v, %v", got[at], p, at, m, x, y)
		}
		s := plainScore(m, x, y, p)
		ok, e := path.Legal(m, x, y, p)
		n, f := path.Score(m, x, y, p)
		if !ok || e != api.OK || f != api.OK || big.NewInt(int64(n)).Cmp(s) != 0 {
			t.Fatalf("%v: %v, %v, %d, %v, not %v: %+v, %v, %v", p, ok, e, n, f, s, m, x, y)
		}
		if n < low || n > high {
			t.Fatalf("%v: %d is not in %d, %d: %+v, %v, %v", p, n, low, high, m, x, y)
		}
		if at == 0 || n > best.Score {
			best = api.Found{Score: n, Path: p}
		}
		if at > 0 && !path.Less(want[at-1], p) {
			t.Fatalf("%v is not ahead of %v", want[at-1], p)
		}
	}
	first, e := path.Best(m, x, y)
	if len(want) == 0 && e != api.ErrNoAlignment || len(want) > 0 && e != api.OK || first != best {
		t.Fatalf("best %v, %v, not %v: %+v, %v, %v", first, e, best, m, x, y)
	}
	return len(want)
}

// TestAgainstPlain: models and sequences of many shapes.
func TestAgainstPlain(t *testing.T) {
	paths, none := 0, 0
	for seed := range uint64(2500) {
		k := newMaker(seed)
		bits := k.IntN(57)
		if seed%2 == 0 {
			bits = k.IntN(4)
		}
		m := k.model(bits)
		longest, _ := bound.Most(m)
		x := k.letters(m, min(longest, 5))
		y := k.letters(m, min(longest, 8-len(x), 4))
		n := againstPlain(t, m, x, y)
		paths += n
		if n == 0 {
			none++
		}
	}
	if paths < 50000 || none < 100 {
		t.Error("of too few kinds", paths, none)
	}
}

// TestAgainstPlainAtTheLimit: eight letters, in each mode, however they are shared out.
func TestAgainstPlainAtTheLimit(t *testing.T) {
	for rows := range 9 {
		for mode := 1; mode <= 4; mode++ {
			k := newMaker(uint64(10*rows + mode))
			m := k.model(3)
			m.Mode, m.Gaps = mode, k.gaps(1+k.IntN(3), 3)
			x, y := make([]int, rows), make([]int, 8-rows)
			for _, l := range [][]int{x, y} {
				for at := range l {
					l[at] = k.IntN(2)
				}
			}
			againstPlain(t, m, x, y)
		}
	}
}

// TestAnyPathAgainstPlain: what is handed in as a path may be anything; just those that All tells are legal.
func TestAnyPathAgainstPlain(t *testing.T) {
	legal := 0
	for seed := range uint64(60000) {
		k := newMaker(seed)
		m := k.model(4)
		x, y := k.letters(m, 3), k.letters(m, 3)
		p := k.anyPath()
		if k.IntN(2) == 0 {
			p.I, p.J = k.IntN(2), k.IntN(2)
		}
		if k.IntN(3) == 0 {
			m.Mode = api.Local
		}
		if !plainLegal(m, x, y, p) {
			illegal(t, m, x, y, p)
			continue
		}
		worth(t, m, x, y, p, int(plainScore(m, x, y, p).Int64()))
		legal++
	}
	if legal < 3000 {
		t.Error("too few are legal", legal)
	}
}

// TestEveryPathOfFewColumns: from each cell in and about those of two letters over two, by all columns up to five, X among them.
func TestEveryPathOfFewColumns(t *testing.T) {
	words := []string{""}
	for at := 0; len(words[at]) < 5; at++ {
		for _, c := range []string{"M", "D", "I", "X"} {
			words = append(words, words[at]+c)
		}
	}
	x, y := seq("01"), seq("10")
	for mode := 1; mode <= 4; mode++ {
		for _, m := range []api.Model{example(mode), ungapped(example(mode)), banded(example(mode), -1, 0), banded(example(mode), 1, 2)} {
			found := 0
			for i := -1; i <= 3; i++ {
				for j := -1; j <= 3; j++ {
					for _, w := range words {
						ok, e := path.Legal(m, x, y, from(i, j, w))
						if e != api.OK || ok != plainLegal(m, x, y, from(i, j, w)) {
							t.Fatalf("%v of %+v: %v, %v", from(i, j, w), m, ok, e)
						}
						if ok {
							found++
						}
					}
				}
			}
			if l, e := path.All(m, x, y); e != api.OK || len(l) != found {
				t.Errorf("%+v: %d of %d, %v", m, len(l), found, e)
			}
		}
	}
}

// TestLongPathsLieInRange: P10.4 of paths through sequences as long as a model of great numbers lets them be.
func TestLongPathsLieInRange(t *testing.T) {
	for seed := range uint64(400) {
		k := newMaker(seed)
		m := k.model(45 + k.IntN(12))
		m.Mode, m.Banded, m.Lo, m.Hi = api.Local, false, 0, 0
		m.Gaps = k.gaps(1+k.IntN(2), 45+k.IntN(12))
		longest, _ := bound.Most(m)
		n := min(longest, 600)
		x, y := make([]int, n), make([]int, n)
		low, high, _ := bound.Range(m, n, n)
		for range 5 {
			p := api.Path{I: k.IntN(min(n, 3)), J: k.IntN(min(n, 3))}
			for i, j := p.I, p.J; i < n && j < n; {
				c := "MDI"[k.IntN(3)]
				if c != 'I' {
					i++
				}
				if c != 'D' {
					j++
				}
				p.Columns += string([]byte{c})
			}
			s, e := path.Score(m, x, y, p)
			if e != api.OK || s < low || s > high || big.NewInt(int64(s)).Cmp(plainScore(m, x, y, p)) != 0 {
				t.Fatalf("%v: %d, %v, of %d, %d: %+v", p, s, e, low, high, m)
			}
		}
	}
}

// TestModelsOfSources: what chapter 9 tells of a source is taken here.
func TestModelsOfSources(t *testing.T) {
	tree, f := syntax.Parse(`alphabet "ACGT"; match 2; mismatch -3; gap 1, 3; gap 10, 0; mode extend; band -3 .. 4; clip 0, 5; least 7;`)
	if f.Code != api.OK {
		t.Fatal(f)
	}
	s, f := check.Check(tree)
	if f.Code != api.OK {
		t.Fatal(f)
	}
	m, e := check.Numbers(s)
	if e != api.OK {
		t.Fatal(e)
	}
	best(t, m, seq("0120"), seq("0123"), 3, from(0, 0, "MMMM"))
	worth(t, m, seq("0120"), seq("0123"), from(0, 0, "MMM"), 1)
	worth(t, m, seq("0120"), seq("0123"), from(0, 0, "DDD"), -15)
	illegal(t, m, seq("0120"), seq("0123"), from(0, 0, "DDDD"))
	worth(t, m, seq("0120"), seq("0123"), from(0, 0, "IIII"), -10)
	againstPlain(t, m, seq("0120"), seq("0123"))
}
