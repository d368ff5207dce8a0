package align_test

import (
	"strconv"
	"strings"
	"testing"

	"helix/align"
	"helix/api"
	"helix/code"
)

// A source's printed form may have as many bytes as a source: of one more there is none.
func TestLongestForm(t *testing.T) {
	const line = "least 1+1+1+1+1+1+1+1+1+1;" // 45 bytes in its form
	rows := strings.Repeat(line, 88)
	text := func(n int) string { return rows + `least "` + strings.Repeat("x", n) + `";` }
	if s, f := align.Format(text(30)); len(s) != 4000 || f != (api.Fault{}) {
		t.Errorf("P20.3: %d bytes, %v", len(s), f)
	}
	for _, source := range []string{text(31), strings.Repeat(line, 100)} {
		if s, f := align.Format(source); s != "" || f != (api.Fault{Code: api.ErrLong}) {
			t.Errorf("P20.3: %d bytes, %v", len(s), f)
		}
	}
}

// A source may be as long as a source may be, whatever its form is.
func TestLongestSource(t *testing.T) {
	source := plainE + "#" + strings.Repeat("x", 3999-len(plainE))
	aligned(t, built(t, source), "ACGT", "AGT", 1, 0, 0, "MDMM")
	faulty(t, source+"x", api.ErrLong, 0)
}

// T6: how long texts may be, by the greatest number of a source: ErrTooLong just where one is longer.
func TestLengths(t *testing.T) {
	for _, c := range []struct{ number, most int }{
		{1 << 56, 6}, {1 << 55, 14}, {1<<55 + 1, 13}, {1 << 50, 510}, {1<<50 + 1, 509}, {1 << 44, 32766}, {1 << 43, 65534},
		{1 << 42, 65536}, {1 << 20, 65536}, {1, 65536}, {0, 65536},
	} {
		n := strconv.Itoa(c.number)
		for _, rest := range []string{"match " + n + "; mismatch 0;", "match 0; mismatch -" + n + ";", "match 1; mismatch 0; clip " + n + ", 0;", "match 1; mismatch 0; clip 0, " + n + ";"} {
			b := built(t, `alphabet "AC"; mode extend; `+rest)
			if b.Most != c.most {
				t.Errorf("P20.1: Most is %d, not %d: %+v", b.Most, c.most, rest)
			}
			long := strings.Repeat("A", c.most)
			if _, e := align.Align(b, long, "C"); e != api.OK {
				t.Errorf("T6: %v of %d letters: %s", e, c.most, rest)
			}
			if _, e := align.Align(b, "", long); e != api.OK {
				t.Errorf("T6: %v of %d letters: %s", e, c.most, rest)
			}
			refused(t, rest, b, long+"A", "", api.ErrTooLong)
			refused(t, rest, b, "A", long+"A", api.ErrTooLong)
			refused(t, rest, b, long+"x", "x", api.ErrTooLong)
		}
	}
}

// The greatest numbers, at the greatest length: scores far on either side of 0.
func TestGreatestNumbers(t *testing.T) {
	const n = 1 << 56
	b := built(t, `let n = 72057594037927936; alphabet "AC"; match n; mismatch -n; gap n, n; mode global;`)
	if b.Most != 2 {
		t.Errorf("P20.1: Most is %d", b.Most)
	}
	aligned(t, b, "AC", "AC", 2*n, 0, 0, "MM")
	aligned(t, b, "AA", "CC", -2*n, 0, 0, "MM")
	aligned(t, b, "AA", "", -3*n, 0, 0, "DD")
	aligned(t, b, "", "CA", -3*n, 0, 0, "II")
	aligned(t, b, "A", "CA", -n, 0, 0, "IM")
	refused(t, "three letters", b, "A", "AAA", api.ErrTooLong)
	b = built(t, `let n = 72057594037927936; alphabet "AC"; match n; mismatch -n; mode local; clip n, n; least -n;`)
	if b.Most != 6 || b.Least != -n {
		t.Errorf("P20.1: %+v", b)
	}
	aligned(t, b, "ACACAC", "ACACAC", 6*n, 0, 0, "MMMMMM")
	aligned(t, b, "A", "CAC", -n, 0, 0, "")
}

// There may be as many cells as may be, and as many letters as may be with none.
func TestCells(t *testing.T) {
	b := built(t, plainE)
	row := strings.Repeat("A", 1023)
	aligned(t, b, row, row, 2046, 0, 0, strings.Repeat("M", 1023))
	refused(t, "too many cells", b, row+"A", row, api.ErrCells)
	refused(t, "too many cells", b, row, row+"A", api.ErrCells)
	refused(t, "no letter stands ahead of that", b, row+"X", row, api.ErrSymbol)
	long := strings.Repeat("ACGT", 16384)
	aligned(t, b, long, "", -4-65536, 0, 0, strings.Repeat("D", 65536))
	aligned(t, b, "", long, -4-65536, 0, 0, strings.Repeat("I", 65536))
	aligned(t, built(t, letters+"mode fit;"), long, "ACGTACGTACGTA", 26, 0, 0, strings.Repeat("M", 13))
	refused(t, "too many cells", b, long, "ACGTACGTACGTACGT", api.ErrCells)
	refused(t, "too many cells, off the band too", built(t, plainE+"band 0 .. 0;"), row+"A", row, api.ErrCells)
	refused(t, "too many letters", b, long+"A", "", api.ErrTooLong)
	refused(t, "too many letters", b, "", long+"A", api.ErrTooLong)
}

// A source may have all that there may be, no two numbers of it alike.
func TestFullest(t *testing.T) {
	all := "ABCDEFGHIJKLMNOPQRST"
	var s strings.Builder
	s.WriteString(`alphabet "` + all + `";match 9;mismatch -9;mode local;clip 3,4;band -70000..70000;least 11;`)
	for k := range 4 {
		s.WriteString("gap " + strconv.Itoa(100-20*k) + "," + strconv.Itoa(1+k) + ";")
	}
	for k := range 89 {
		s.WriteString(`pair "` + all[k/20:k/20+1] + all[k%20:k%20+1] + `",` + strconv.Itoa(k-200) + ";")
	}
	b := built(t, s.String())
	c, e := code.Decode(b.Code)
	if e != api.OK || c.Letters != 20 || len(c.Table) != 400 || c.Table[88] != -112 || c.Table[89] != -9 {
		t.Errorf("P20.1: %+v, %v", c, e)
	}
	aligned(t, b, "TTTHIJKTT", "HIJKA", 32, 3, 0, "MMMM")
	aligned(t, b, "AAAA", "AAAA", -3, 0, 4, "")
}
