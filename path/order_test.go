package path_test

import (
	"math"
	"math/big"
	"strings"
	"testing"

	"helix/api"
	"helix/path"
)

// ahead asks that a stands ahead of b, and b not ahead of a, nor one of itself.
func ahead(t *testing.T, a, b api.Path) {
	t.Helper()
	if !path.Less(a, b) {
		t.Errorf("%v is not ahead of %v", a, b)
	}
	if path.Less(b, a) {
		t.Errorf("%v is ahead of %v", b, a)
	}
	for _, p := range []api.Path{a, b} {
		if path.Less(p, p) {
			t.Errorf("%v is ahead of itself", p)
		}
	}
}

// inOrder asks that each stands ahead of all behind it.
func inOrder(t *testing.T, l ...api.Path) {
	t.Helper()
	for i := range l {
		for j := i + 1; j < len(l); j++ {
			ahead(t, l[i], l[j])
		}
	}
}

// TestOrderOfEnds: the row where it ends, then the column, ahead of all columns of the path.
func TestOrderOfEnds(t *testing.T) {
	inOrder(t, from(0, 0, ""), from(0, 0, "I"), from(0, 0, "II"), from(0, 0, "D"), from(0, 0, "M"), from(0, 0, "MI"), from(0, 0, "DD"))
	inOrder(t, from(0, 9, ""), from(0, 9, "I"), from(1, 0, ""), from(1, 8, "III"), from(1, 12, ""), from(0, 0, "DD"), from(2, 0, "I"))
	inOrder(t, from(-5, 3, ""), from(-5, 3, "D"), from(-1, -7, ""), from(-1, 0, ""), from(-1, 0, "I"), from(0, -9, ""))
	// Where a path begins does not count but for where it ends.
	ahead(t, from(5, 5, ""), from(0, 0, "MMMMMD"))
	ahead(t, from(0, 0, "MMMM"), from(5, 5, ""))
}

// TestOrderOfColumns: paths that end at one cell are told apart from the last column on, then by how many there are.
func TestOrderOfColumns(t *testing.T) {
	inOrder(t, from(0, 0, "M"), from(0, 0, "ID"), from(0, 0, "DI"))
	inOrder(t, from(2, 2, ""), from(1, 1, "M"), from(0, 0, "MM"), from(0, 0, "IDM"), from(0, 0, "DIM"),
		from(1, 2, "D"), from(0, 1, "MD"), from(0, 2, "DD"), from(0, 1, "IDD"), from(0, 1, "DID"), from(0, 0, "MDI"))
	// All that end at (2, 2) by one or two columns.
	inOrder(t, from(1, 1, "M"), from(0, 0, "MM"), from(0, 1, "DM"), from(1, 0, "IM"),
		from(1, 2, "D"), from(0, 1, "MD"), from(0, 2, "DD"), from(1, 1, "ID"),
		from(2, 1, "I"), from(1, 0, "MI"), from(1, 1, "DI"), from(2, 0, "II"))
	// The first column counts least.
	inOrder(t, from(0, 0, "DMI"), from(0, 0, "MDI"), from(0, 0, "IDDI"))
	inOrder(t, from(0, 1, "DMMMM"), from(1, 0, "IMMMM"), from(3, 4, "MD"))
	long := strings.Repeat("MDI", 1000)
	inOrder(t, from(0, 0, "M"+long), from(0, 0, "ID"+long), from(0, 0, "DI"+long))
	ahead(t, from(1, 1, long), from(0, 0, "M"+long))
}

// TestOrderOfOtherBytes: they lead nowhere, and stand behind I, by their numbers.
func TestOrderOfOtherBytes(t *testing.T) {
	var l []api.Path
	for b := range 256 {
		if c := string([]byte{byte(b)}); !strings.Contains("MDI", c) {
			l = append(l, from(3, 4, c))
		}
	}
	if len(l) != 253 {
		t.Fatal(len(l))
	}
	inOrder(t, l...)
	for _, p := range l {
		ahead(t, from(3, 4, ""), p)
		ahead(t, from(2, 3, "M"), p)
		ahead(t, from(2, 4, "D"), p)
		ahead(t, from(3, 3, "I"), p)
		ahead(t, p, from(3, 5, ""))
		ahead(t, from(3, 3, "I"), from(3, 3, "I"+p.Columns))
		ahead(t, p, from(3, 4, p.Columns+p.Columns))
		ahead(t, p, from(2, 3, "M"+p.Columns))
		ahead(t, from(2, 3, p.Columns+"M"), p)
	}
	inOrder(t, from(0, 0, ""), from(0, 0, "\x00"), from(0, 0, "\x00\x00"), from(0, 0, "\xff\x00"), from(0, 0, "\x01"), from(0, 0, "\x00\xff"))
	// Columns are bytes, whatever runes they make.
	inOrder(t, from(0, 0, "\u00c3"), from(0, 0, "\xa9"), from(0, 0, "\u00e9"), from(0, 0, "\xc3"))
}

// TestOrderGoesRound: sums beyond 64 bits.
func TestOrderGoesRound(t *testing.T) {
	inOrder(t, from(math.MaxInt, 0, "D"), from(math.MinInt, 1, ""), from(0, math.MaxInt, "I"), from(0, 0, ""), from(math.MaxInt, 0, ""))
	inOrder(t, from(math.MaxInt, math.MaxInt, "M"), from(math.MinInt, math.MaxInt, ""), from(math.MaxInt-1, math.MaxInt, "M"), from(math.MaxInt, math.MaxInt, ""))
	// The same cell by three ways.
	inOrder(t, from(math.MinInt, math.MinInt, ""), from(math.MaxInt, math.MaxInt, "M"), from(math.MaxInt, math.MinInt, "D"), from(math.MinInt, math.MaxInt, "I"))
	inOrder(t, from(math.MaxInt-1, 0, "DDD"), from(0, 0, ""))
	inOrder(t, from(0, math.MaxInt-1, "II"), from(0, 0, ""))
}

// plainLess is P11.3, by numbers of any size that are brought back into 64 bits, and a text of each path's columns from the last to the first.
func plainLess(a, b api.Path) bool {
	return keyOf(a).ahead(keyOf(b))
}

// key is the cell where a path ends, and its columns in the order's own letters: what is ahead as a text is ahead here.
type key struct {
	i, j    *big.Int
	columns string
}

func (a key) ahead(b key) bool {
	if c := a.i.Cmp(b.i); c != 0 {
		return c < 0
	}
	if c := a.j.Cmp(b.j); c != 0 {
		return c < 0
	}
	return a.columns < b.columns
}

func keyOf(p api.Path) key {
	i, j := big.NewInt(int64(p.I)), big.NewInt(int64(p.J))
	i.Add(i, big.NewInt(int64(strings.Count(p.Columns, "M")+strings.Count(p.Columns, "D"))))
	j.Add(j, big.NewInt(int64(strings.Count(p.Columns, "M")+strings.Count(p.Columns, "I"))))
	var columns []byte
	for at := len(p.Columns) - 1; at >= 0; at-- {
		if where := strings.IndexByte("MDI", p.Columns[at]); where >= 0 {
			columns = append(columns, 0, byte(where))
		} else {
			columns = append(columns, 1, p.Columns[at])
		}
	}
	return key{round(i), round(j), string(columns)}
}

// round brings a number back into 64 bits.
func round(n *big.Int) *big.Int {
	whole := new(big.Int).Lsh(big.NewInt(1), 64)
	half := new(big.Int).Lsh(big.NewInt(1), 63)
	n.Add(n, half).Mod(n, whole)
	return n.Sub(n, half)
}

// TestLessIsAnOrder: of two unlike paths just one stands ahead, of a path and itself none, and what is ahead of what is ahead is ahead.
func TestLessIsAnOrder(t *testing.T) {
	var l []api.Path
	for seed := range uint64(220) {
		m := newMaker(seed)
		l = append(l, m.anyPath(), m.anyPath())
	}
	for _, columns := range []string{"", "M", "D", "I", "X", "MM", "DI", "ID", "XM", "MX", "DD", "MDI"} {
		for i := range 2 {
			for j := range 2 {
				l = append(l, from(i, j, columns))
			}
		}
	}
	less := make([][]bool, len(l))
	for i, a := range l {
		less[i] = make([]bool, len(l))
		for j, b := range l {
			less[i][j] = path.Less(a, b)
			if less[i][j] != plainLess(a, b) {
				t.Fatalf("%v and %v: %v", a, b, less[i][j])
			}
		}
	}
	for i, a := range l {
		for j, b := range l {
			if a == b && (less[i][j] || less[j][i]) || a != b && less[i][j] == less[j][i] {
				t.Fatalf("%v and %v: %v, %v", a, b, less[i][j], less[j][i])
			}
			if !less[i][j] {
				continue
			}
			for k := range l {
				if less[j][k] && !less[i][k] {
					t.Fatalf("%v, %v, %v stand in a ring", a, b, l[k])
				}
			}
		}
	}
}
