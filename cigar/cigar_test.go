package cigar_test

import (
	"math"
	"math/big"
	"regexp"
	"slices"
	"strconv"
	"strings"
	"testing"

	"helix/api"
	"helix/cigar"
)

// runs is those of a text of numbers and Ops, read without the package; signs and zeros ahead are taken, so that wrong ones can be told too.
func runs(s string) []api.Run {
	var l []api.Run
	for _, w := range strings.Fields(s) {
		n, err := strconv.Atoi(w[:len(w)-1])
		if err != nil {
			panic(err)
		}
		l = append(l, api.Run{Op: w[len(w)-1], Len: n})
	}
	return l
}

// told is the text of runs, written without the package.
func told(l []api.Run) string {
	s := make([]string, len(l))
	for i, r := range l {
		s[i] = strconv.Itoa(r.Len) + string(rune(r.Op))
	}
	if len(s) == 0 {
		return "*"
	}
	return strings.Join(s, "")
}

// spread is the columns of runs, written without the package.
func spread(l []api.Run) string {
	var b []byte
	for _, r := range l {
		for i := 0; i < r.Len && r.Op != 'S'; i++ {
			b = append(b, r.Op)
		}
	}
	return string(b)
}

// count is how many letters the runs of some Ops have.
func count(l []api.Run, ops string) int {
	n := 0
	for _, r := range l {
		if strings.Contains(ops, string(rune(r.Op))) {
			n += r.Len
		}
	}
	return n
}

// right says plainly what runs are right; its sum has no greatest number.
func right(l []api.Run) bool {
	all := new(big.Int)
	for i, r := range l {
		switch r.Op {
		case 'M', 'D', 'I':
			all.Add(all, big.NewInt(int64(r.Len)))
		case 'S':
			first, last := i == 0, i == len(l)-1
			if !first && !last || r.Len > 65536 {
				return false
			}
		default:
			return false
		}
		if r.Len <= 0 || i+1 < len(l) && l[i+1].Op == r.Op {
			return false
		}
	}
	return all.Cmp(big.NewInt(131072)) <= 0
}

// brief is runs' text, for what a test tells.
func brief(l []api.Run) string {
	if len(l) > 9 {
		return told(l[:9]) + ".. of " + strconv.Itoa(len(l))
	}
	return told(l)
}

func hasRuns(t *testing.T, columns string, want []api.Run) {
	t.Helper()
	if l, e := cigar.Of(columns); !slices.Equal(l, want) || e != api.OK {
		t.Errorf("C1: Of(%.60q): %s, %d; want %s, OK", columns, brief(l), e, brief(want))
	}
}

func hasNoRuns(t *testing.T, columns string, want api.Errno) {
	t.Helper()
	if l, e := cigar.Of(columns); len(l) != 0 || e != want {
		t.Errorf("C1: Of(%.60q) of %d bytes: %s, %d; want none, %d", columns, len(columns), brief(l), e, want)
	}
}

// taken holds all calls to right runs.
func taken(t *testing.T, l ...api.Run) {
	t.Helper()
	if s, e := cigar.Columns(l...); s != spread(l) || e != api.OK {
		t.Errorf("C2: Columns(%s): %.60q (%d bytes), %d; want %.60q, OK", brief(l), s, len(s), e, spread(l))
	}
	if s, e := cigar.Print(l...); s != told(l) || e != api.OK {
		t.Errorf("C3: Print(%s): %.60q, %d; want %.60q, OK", brief(l), s, e, told(l))
	}
	if x, y, e := cigar.Spans(l...); x != count(l, "MD") || y != count(l, "MIS") || e != api.OK {
		t.Errorf("C5: Spans(%s): %d, %d, %d; want %d, %d, OK", brief(l), x, y, e, count(l, "MD"), count(l, "MIS"))
	}
	if got, e := cigar.Parse(told(l)); !slices.Equal(got, l) || e != api.OK {
		t.Errorf("C4: Parse(%.60q): %s, %d; want %s, OK", told(l), brief(got), e, brief(l))
	}
}

// refused holds all calls to runs that are not right; their text is no right one either.
func refused(t *testing.T, l ...api.Run) {
	t.Helper()
	notRead(t, told(l))
	notTaken(t, l...)
}

// notTaken holds the calls of runs to ones that are not right.
func notTaken(t *testing.T, l ...api.Run) {
	t.Helper()
	if s, e := cigar.Columns(l...); s != "" || e != api.ErrCigar {
		t.Errorf("C2: Columns(%s): %.60q, %d; want nothing, ErrCigar", brief(l), s, e)
	}
	if s, e := cigar.Print(l...); s != "" || e != api.ErrCigar {
		t.Errorf("C3: Print(%s): %.60q, %d; want nothing, ErrCigar", brief(l), s, e)
	}
	if x, y, e := cigar.Spans(l...); x != 0 || y != 0 || e != api.ErrCigar {
		t.Errorf("C5: Spans(%s): %d, %d, %d; want 0, 0, ErrCigar", brief(l), x, y, e)
	}
}

func notRead(t *testing.T, s string) {
	t.Helper()
	if l, e := cigar.Parse(s); len(l) != 0 || e != api.ErrCigar {
		t.Errorf("C4: Parse(%.60q) of %d bytes: %s, %d; want none, ErrCigar", s, len(s), brief(l), e)
	}
}

func TestExamples(t *testing.T) {
	l := []api.Run{{Op: 'M', Len: 3}, {Op: 'I', Len: 1}, {Op: 'D', Len: 2}}
	hasRuns(t, "MMMIDD", l)
	if s, e := cigar.Print(l...); s != "3M1I2D" || e != api.OK {
		t.Errorf("C3: %q, %d", s, e)
	}
	if x, y, e := cigar.Spans(l...); x != 5 || y != 4 || e != api.OK {
		t.Errorf("C5: %d, %d, %d", x, y, e)
	}
	hasRuns(t, "", nil)
	if s, e := cigar.Print(); s != "*" || e != api.OK {
		t.Errorf("C3: of none: %q, %d", s, e)
	}
	if x, y, e := cigar.Spans(); x != 0 || y != 0 || e != api.OK {
		t.Errorf("C5: of none: %d, %d, %d", x, y, e)
	}
	hasNoRuns(t, "MS", api.ErrCigar)
	l = []api.Run{{Op: 'S', Len: 2}, {Op: 'M', Len: 1}, {Op: 'S', Len: 5}}
	if s, e := cigar.Columns(l...); s != "M" || e != api.OK {
		t.Errorf("C2: %q, %d", s, e)
	}
	if x, y, e := cigar.Spans(l...); x != 1 || y != 8 || e != api.OK {
		t.Errorf("C5: %d, %d, %d", x, y, e)
	}
	for _, s := range []string{"1M 1M", "1M 1S 1M", "0M", "-1M", "1X"} {
		refused(t, runs(s)...)
	}
	if s, e := cigar.Columns(api.Run{Op: 'S', Len: 5}); s != "" || e != api.OK {
		t.Errorf("C2: %q, %d", s, e)
	}
	if l, e := cigar.Parse("2S10M"); !slices.Equal(l, []api.Run{{Op: 'S', Len: 2}, {Op: 'M', Len: 10}}) || e != api.OK {
		t.Errorf("C4: %v, %d", l, e)
	}
	if l, e := cigar.Parse("*"); len(l) != 0 || e != api.OK {
		t.Errorf("C4: of *: %v, %d", l, e)
	}
	for _, s := range []string{"", "M", "03M", "3M4", "3m", "1M1M", "0M"} {
		notRead(t, s)
	}
}

func TestOfWrongBytes(t *testing.T) {
	for c := range 256 {
		s := string([]byte{byte(c)})
		if strings.Contains("MDI", s) {
			hasRuns(t, s, []api.Run{{Op: byte(c), Len: 1}})
			continue
		}
		for _, text := range []string{s, s + "M", "M" + s, "MM" + s + "MM", "MDI" + s, strings.Repeat(s, 9)} {
			hasNoRuns(t, text, api.ErrCigar)
		}
	}
	// The low bytes of these runes' numbers are columns.
	for _, s := range []string{"\u014d", "\u0144", "\u0149", "M\u034dM", "\U0001004d", "M\U00010044"} {
		hasNoRuns(t, s, api.ErrCigar)
		notRead(t, "1"+s)
	}
	for _, s := range []string{"*", "3M", "MMM ", " ", "M\n", "mmm", "MMMm", "=", "X", "N", "H", "P"} {
		hasNoRuns(t, s, api.ErrCigar)
	}
}

func TestOfManyColumns(t *testing.T) {
	for _, op := range []string{"M", "D", "I"} {
		hasRuns(t, strings.Repeat(op, 131072), []api.Run{{Op: op[0], Len: 131072}})
		hasRuns(t, strings.Repeat(op, 131071), []api.Run{{Op: op[0], Len: 131071}})
		hasNoRuns(t, strings.Repeat(op, 131073), api.ErrLong)
	}
	mixed := strings.Repeat("MDI", 43691)[:131072]
	hasRuns(t, mixed, slices.Repeat(runs("1M 1D 1I"), 43691)[:131072])
	hasNoRuns(t, mixed+"M", api.ErrLong)
	// Too long is named ahead of a byte that is no column, wherever it stands.
	hasNoRuns(t, strings.Repeat("x", 131073), api.ErrLong)
	hasNoRuns(t, "S"+mixed, api.ErrLong)
	hasNoRuns(t, mixed+"\xff", api.ErrLong)
	hasNoRuns(t, strings.Repeat("S", 2000000), api.ErrLong)
	hasNoRuns(t, strings.Repeat("x", 131072), api.ErrCigar)
	hasNoRuns(t, mixed[:131071]+"S", api.ErrCigar)
	hasNoRuns(t, "m"+mixed[:131071], api.ErrCigar)
	// Bytes are counted, not runes.
	hasNoRuns(t, strings.Repeat("ä", 65537), api.ErrLong)
	hasNoRuns(t, strings.Repeat("ä", 65536), api.ErrCigar)
}

func TestRightRuns(t *testing.T) {
	for _, s := range []string{
		"", "1M", "1D", "1I", "1S", "9M", "10M", "11M", "1M 1D", "1M 1I", "1D 1I", "1I 1D", "2M 3D 4I 5M", "1M 1D 1M 1D",
		"1S 1M", "1M 1S", "1S 1M 1S", "2S 1D", "1I 2S", "3S 1D 2M 1I 4S", "1S 1I 1S", "1S 1D 1S", "100M 20I 3D 100M", "109M 90D", "7890M",
	} {
		taken(t, runs(s)...)
	}
	taken(t, []api.Run{}...)
}

func TestWrongRuns(t *testing.T) {
	for _, s := range []string{
		"1M 1M", "1D 2D", "3I 1I", "1S 1S", "1M 2I 3I", "1D 1D 1M", "1S 1S 1M", "1M 1S 1S", "1M 1D 1D 1I", "1M 1M 1M", "1S 1S 1S",
		"1M 1S 1M", "1M 1S 1D", "1S 1M 1S 1M", "1M 1S 1M 1S", "1S 1M 1S 1M 1S", "1M 1D 1S 1I 1M", "1I 1S 1I", "1M 65536S 1D",
		"0M", "0D", "0I", "0S", "-1M", "-1D", "-1I", "-1S", "1M 0D", "0M 1D", "1M 0D 1M", "1S 0M", "0S 1M", "1M 0S", "2M -1D 1M", "5M -5D", "1M -1S",
		"-9223372036854775808M", "-9223372036854775808S", "1M -9223372036854775808D", "131072M -1D", "131073M -1D", "-131072M",
	} {
		refused(t, runs(s)...)
	}
	for c := range 256 {
		if r := (api.Run{Op: byte(c), Len: 1}); !strings.Contains("MDIS", string(rune(c))) {
			notTaken(t, r)
			notTaken(t, r, api.Run{Op: 'M', Len: 1})
			notTaken(t, api.Run{Op: 'M', Len: 1}, r)
			notTaken(t, api.Run{Op: 'M', Len: 1}, r, api.Run{Op: 'D', Len: 1})
		}
	}
	refused(t, api.Run{})
	refused(t, make([]api.Run, 3)...)
}

func TestManyColumnsOfRuns(t *testing.T) {
	for _, s := range []string{
		"131072M", "131072D", "131072I", "131071M", "131071M 1D", "1D 131071M", "131070M 1D 1I", "65536M 65536D", "1I 131070M 1I",
		"65536S", "65535S", "65536S 131072M", "131072M 65536S", "65536S 131072I 65536S", "65536S 1M 65536S", "65536S 65536M 65536D 65536S", "1S 131071M 1D 1S",
	} {
		taken(t, runs(s)...)
	}
	for _, s := range []string{
		"131073M", "131073D", "131073I", "131072M 1D", "1D 131072M", "131071M 1D 1I", "131071M 2D", "65536M 65537D", "1I 131071M 1I", "131072M 131072D", "200000M",
		"65537S", "65537S 1M", "1M 65537S", "65536S 1M 65537S", "65537S 1M 65536S", "131072S", "1S 131072M 1D 1S", "1S 131073M", "131073M 1S", "131073S",
	} {
		refused(t, runs(s)...)
	}
}

func TestSumsPastAnInt(t *testing.T) {
	for _, n := range []int{math.MaxInt, math.MaxInt - 1, math.MaxInt - 131072, 1 << 62, 1 << 32, 1 << 31, math.MaxInt32} {
		for _, op := range []byte("MDIS") {
			refused(t, api.Run{Op: op, Len: n})
			refused(t, api.Run{Op: 'M', Len: 1}, api.Run{Op: op, Len: n})
			refused(t, api.Run{Op: op, Len: n}, api.Run{Op: 'I', Len: 1})
		}
		refused(t, api.Run{Op: 'M', Len: n}, api.Run{Op: 'D', Len: math.MaxInt - n + 1}, api.Run{Op: 'I', Len: math.MaxInt}, api.Run{Op: 'M', Len: 3})
	}
	refused(t, api.Run{Op: 'M', Len: math.MaxInt}, api.Run{Op: 'D', Len: math.MaxInt}, api.Run{Op: 'M', Len: 2}, api.Run{Op: 'D', Len: 1})
	refused(t, api.Run{Op: 'M', Len: 1 << 62}, api.Run{Op: 'D', Len: 1 << 62}, api.Run{Op: 'M', Len: 1 << 62}, api.Run{Op: 'D', Len: 1 << 62})
	refused(t, api.Run{Op: 'M', Len: 1}, api.Run{Op: 'D', Len: math.MaxInt}, api.Run{Op: 'M', Len: 2}, api.Run{Op: 'I', Len: math.MaxInt}, api.Run{Op: 'M', Len: 5})
	refused(t, api.Run{Op: 'S', Len: math.MaxInt}, api.Run{Op: 'M', Len: 1}, api.Run{Op: 'S', Len: math.MaxInt})
	refused(t, api.Run{Op: 'M', Len: math.MinInt}, api.Run{Op: 'D', Len: math.MinInt}, api.Run{Op: 'M', Len: 1})
}

func TestManyRuns(t *testing.T) {
	inner := slices.Repeat(runs("1M 1D 1I"), 43692)
	s := api.Run{Op: 'S', Len: 7}
	most := slices.Concat([]api.Run{s}, inner[:131072], []api.Run{s})
	if len(most) != 131074 {
		t.Fatalf("%d runs", len(most))
	}
	taken(t, most...)
	taken(t, most[1:]...)
	taken(t, most[:131073]...)
	taken(t, most[1:131073]...)
	refused(t, inner[:131073]...)
	refused(t, inner[:131075]...)
	refused(t, slices.Concat([]api.Run{s}, inner[:131073], []api.Run{s})...)
	refused(t, slices.Concat(most, most)...)
	notRead(t, strings.Repeat("1M", 1000000))
	notRead(t, strings.Repeat("1M1D", 1000000))
}

func TestWrongTexts(t *testing.T) {
	for _, s := range []string{
		"", "M", "S", "MM", "M3", "3", "34", "3M4", "M3M", "3MD", "3M D", "3MM", "3M4D5",
		"0", "0M", "00M", "03M", "003M", "3M04D", "1M01D", "3M0D", "0S1M", "1M0S", "00",
		"-3M", "+3M", "3M-1D", "3M+1D", "-0M", "3.0M", "3e1M", "0x3M", "1_0M", "1,0M",
		" 3M", "3M ", "3 M", "3M 4D", "\t3M", "3M\n", "3M\r", "3M\x00", "\n", " ",
		"3m", "3d", "3i", "3s", "3M4d", "3X", "3N", "3H", "3P", "3=", "3M1X", "1S3m",
		"**", "*3M", "3M*", "* ", " *", "3*", "*M", "1*", "*\n", "0*", "3M*4D", "*1", "M*",
		"1M1M", "1S1S", "1M1S1M", "131073M", "131072M1D", "65537S", "1M65537S", "1000000M", "131073S",
		"99999999999999999999M", "9223372036854775807M", "9223372036854775808M", "18446744073709551617M", "18446744073709551616M", "18446744073709551619M", "4294967297M", "4294967296M",
		"1M18446744073709551617D", "1S36893488147419103233M", "184467440737095516160000000000000001M",
		"3\xffM", "\xff", "3M\xff", "３M", "3Ｍ", "²M", "3M²D", "٣M", "1\u014d",
	} {
		notRead(t, s)
	}
	for _, digits := range []int{7, 18, 19, 20, 40, 100000, 3000000} {
		notRead(t, strings.Repeat("1", digits)+"M")
		notRead(t, strings.Repeat("0", digits)+"1M")
		notRead(t, "1"+strings.Repeat("0", digits)+"M")
		notRead(t, "2M"+strings.Repeat("9", digits)+"S")
		notRead(t, strings.Repeat("1", digits))
		notRead(t, strings.Repeat("0", digits)+"M")
	}
	for c := range 256 {
		s := string([]byte{byte(c)})
		if !strings.Contains("MDIS", s) {
			notRead(t, "3"+s)
			notRead(t, "3M2"+s)
		}
		if !strings.Contains("MDIS0123456789", s) {
			notRead(t, "3"+s+"2D")
		}
		if c < '1' || c > '9' {
			notRead(t, s+"3M")
			notRead(t, "3M"+s+"2D")
		}
		notRead(t, "*"+s)
		notRead(t, s+"*")
	}
}

// words has all rows of at most n of some words.
func words(n int, of ...string) []string {
	all, from := []string{""}, 0
	for range n {
		end := len(all)
		for _, s := range all[from:end] {
			for _, w := range of {
				all = append(all, s+w)
			}
		}
		from = end
	}
	return all
}

func TestAllShortColumns(t *testing.T) {
	for _, s := range words(8, "M", "D", "I") {
		l, e := cigar.Of(s)
		if spread(l) != s || !right(l) || e != api.OK {
			t.Fatalf("C1: Of(%q): %v, %d", s, l, e)
		}
		if again, e := cigar.Columns(l...); again != s || e != api.OK {
			t.Fatalf("C6: Columns(Of(%q)): %q, %d", s, again, e)
		}
		taken(t, l...)
	}
	for _, s := range words(5, "M", "D", "I", "S", "x", "é") {
		_, e := cigar.Of(s)
		if wrong := strings.Trim(s, "MDI") != ""; wrong != (e == api.ErrCigar) || !wrong && e != api.OK {
			t.Fatalf("C1: Of(%q): %d", s, e)
		}
	}
}

func TestTwoRowsOfColumns(t *testing.T) {
	rows := words(4, "M", "D", "I")
	for _, a := range rows {
		for _, b := range rows {
			joined, _ := cigar.Of(a)
			behind, _ := cigar.Of(b)
			if last := len(joined) - 1; a != "" && b != "" && joined[last].Op == behind[0].Op {
				joined[last].Len += behind[0].Len
				behind = behind[1:]
			}
			if l, e := cigar.Of(a + b); !slices.Equal(l, append(joined, behind...)) || e != api.OK {
				t.Fatalf("C6: Of(%q + %q): %v, %d", a, b, l, e)
			}
		}
	}
	half := strings.Repeat("D", 65536)
	hasRuns(t, half+half, runs("131072D"))
}

func TestAllShortRuns(t *testing.T) {
	some := runs("1M 2M 0M 131072M 3D 131071D -1D 1I 10I 1S 65536S 65537S 1X")
	all := [][]api.Run{nil}
	for i := 0; i < len(all); i++ {
		l := all[i]
		if right(l) {
			taken(t, l...)
		} else {
			refused(t, l...)
		}
		for _, r := range some {
			if len(l) < 4 && (len(l) < 3 || r.Len < 4) {
				all = append(all, append(slices.Clone(l), r))
			}
		}
	}
}

// The chapter's words as a pattern, to hold Parse against.
var form = regexp.MustCompile(`^(?:[1-9][0-9]{0,6}[MDIS])+$`)

// plainly reads short texts by that pattern.
func plainly(s string) ([]api.Run, api.Errno) {
	if s == "*" {
		return nil, api.OK
	}
	if !form.MatchString(s) {
		return nil, api.ErrCigar
	}
	l := runs(regexp.MustCompile(`[MDIS]`).ReplaceAllString(s, "$0 "))
	if !right(l) {
		return nil, api.ErrCigar
	}
	return l, api.OK
}

func TestAllShortTexts(t *testing.T) {
	for _, s := range words(6, "1", "0", "M", "D", "S", "*", "-") {
		got, e := cigar.Parse(s)
		if want, wantE := plainly(s); !slices.Equal(got, want) || e != wantE {
			t.Fatalf("C4: Parse(%q): %v, %d; want %v, %d", s, got, e, want, wantE)
		}
		if e != api.OK {
			continue
		}
		if again, e := cigar.Print(got...); again != s || e != api.OK {
			t.Fatalf("C6: Print(Parse(%q)): %q, %d", s, again, e)
		}
	}
}

func TestArgumentsStay(t *testing.T) {
	room := slices.Grow(runs("2S 3M 1I 4M 5S"), 3)
	spare := room[:8]
	spare[5], spare[7] = api.Run{Op: 'k', Len: 1}, api.Run{Op: 'e', Len: -2}
	before := slices.Clone(spare)
	cigar.Columns(room...)
	cigar.Print(room...)
	cigar.Spans(room...)
	// Wrong ones stay as they are, too.
	cigar.Columns(spare...)
	cigar.Print(spare...)
	cigar.Spans(spare...)
	if !slices.Equal(spare, before) {
		t.Errorf("R5: what was handed in has changed: %v", spare)
	}
	for name, call := range map[string]func() ([]api.Run, api.Errno){
		"Of":    func() ([]api.Run, api.Errno) { return cigar.Of("MMDII") },
		"Parse": func() ([]api.Run, api.Errno) { return cigar.Parse("2M1D2I") },
	} {
		l, _ := call()
		l[0].Len = 77
		_ = append(l, api.Run{Op: 'M', Len: 9})
		if again, e := call(); !slices.Equal(again, runs("2M 1D 2I")) || e != api.OK {
			t.Errorf("R5, R6: %s told something else the second time: %v, %d", name, again, e)
		}
	}
}

func FuzzParse(f *testing.F) {
	f.Add("2S10M3I1D65536S")
	f.Add("*")
	f.Fuzz(func(t *testing.T, s string) {
		got, e := cigar.Parse(s)
		if want, wantE := plainly(s); !slices.Equal(got, want) || e != wantE {
			t.Fatalf("C4: Parse(%q): %v, %d; want %v, %d", s, got, e, want, wantE)
		}
		if e == api.OK {
			taken(t, got...)
		}
		if l, e := cigar.Of(s); e == api.OK && spread(l) != s {
			t.Fatalf("C1: Of(%q): %v", s, l)
		}
	})
}
