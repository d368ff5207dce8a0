package sam_test

import (
	"fmt"
	"math"
	"math/big"
	"reflect"
	"regexp"
	"slices"
	"strconv"
	"strings"
	"testing"

	"helix/api"
	"helix/sam"
)

// The lines of the chapter's records.
const (
	exampleLine    = "r\t0\tc\t3\t255\t1S2M\t*\t0\t0\tACG\tIII\tAS:i:-4"
	exampleNowhere = "r\t4\t*\t0\t0\t*\t*\t0\t0\tACG\tIII"
)

func example() api.Record {
	return api.Record{Name: "r", Mapped: true, Ref: "c", Pos: 3, Runs: runs("1S 2M"), Bases: "ACG", Quals: "III", Score: -4}
}

func nowhere() api.Record { return api.Record{Name: "r", Bases: "ACG", Quals: "III"} }

// runs is those of a text of numbers and Ops; signs and zeros ahead are taken, so that wrong ones can be told too.
func runs(s string) []api.Run {
	var l []api.Run
	for _, w := range strings.Fields(s) {
		n, err := strconv.Atoi(w[:len(w)-1])
		if err != nil {
			panic(err)
		}
		l = append(l, api.Run{Op: w[len(w)-1], Len: n})
	}
	return l
}

// letters is n of a plain rule, small ones among them, so that a piece that is left out or turned round is seen.
func letters(n int) string {
	b := make([]byte, n)
	for i := range b {
		b[i] = "ACGTacgtNnZz"[(i*i+i/5)%12]
	}
	return string(b)
}

// signs is n that are likewise of a plain rule, all of them in turn.
func signs(n int) string {
	b := make([]byte, n)
	for i := range b {
		b[i] = byte(33 + (i*7+i/94)%94)
	}
	return string(b)
}

// over is a mapped record of as many letters as the runs of a text take.
func over(pos int, s string) api.Record {
	l := runs(s)
	_, y := spans(l)
	return api.Record{Name: "r", Mapped: true, Ref: "c", Pos: pos, Runs: l, Bases: letters(y), Quals: signs(y)}
}

// spans is how many letters of the reference, and of the read, runs take.
func spans(l []api.Run) (x, y int) {
	for _, r := range l {
		if r.Op == 'M' || r.Op == 'D' {
			x += r.Len
		}
		if r.Op != 'D' {
			y += r.Len
		}
	}
	return x, y
}

// told is a record's line, written without the package.
func told(r api.Record) string {
	if !r.Mapped {
		return fmt.Sprintf("%s\t4\t*\t0\t0\t*\t*\t0\t0\t%s\t%s", r.Name, r.Bases, r.Quals)
	}
	var b strings.Builder
	for _, x := range r.Runs {
		fmt.Fprintf(&b, "%d%c", x.Len, x.Op)
	}
	return fmt.Sprintf("%s\t0\t%s\t%d\t255\t%s\t*\t0\t0\t%s\t%s\tAS:i:%d", r.Name, r.Ref, r.Pos, b.String(), r.Bases, r.Quals, r.Score)
}

// same tells whether two records are, no runs being as good as nil ones.
func same(a, b api.Record) bool {
	if !slices.Equal(a.Runs, b.Runs) {
		return false
	}
	a.Runs, b.Runs = nil, nil
	return reflect.DeepEqual(a, b)
}

// brief is a record, for what a test tells.
func brief(r api.Record) string {
	return fmt.Sprintf("%.80q %v %.80q %d %.60v %.20q (%d) %.20q (%d) %d", r.Name, r.Mapped, r.Ref, r.Pos, fmt.Sprint(r.Runs), r.Bases, len(r.Bases), r.Quals, len(r.Quals), r.Score)
}

// taken holds Line and Record to a right record.
func taken(t *testing.T, r api.Record) {
	t.Helper()
	if s, e := sam.Line(r); s != told(r) || e != api.OK {
		t.Errorf("S1: Line(%s): %.90q, %d; want %.90q, OK", brief(r), s, e, told(r))
	}
	if got, e := sam.Record(told(r)); !same(got, r) || e != api.OK {
		t.Errorf("S2: Record(%.90q): %s, %d; want %s, OK", told(r), brief(got), e, brief(r))
	}
}

// refused holds Line to a record that is not right.
func refused(t *testing.T, r api.Record) {
	t.Helper()
	if s, e := sam.Line(r); s != "" || e != api.ErrRecord {
		t.Errorf("S1: Line(%s): %.90q, %d; want nothing, ErrRecord", brief(r), s, e)
	}
}

// notRead holds Record to a line that is none.
func notRead(t *testing.T, line string) {
	t.Helper()
	if r, e := sam.Record(line); !same(r, api.Record{}) || e != api.ErrRecord {
		t.Errorf("S2: Record(%.120q): %s, %d; want nothing, ErrRecord", line, brief(r), e)
	}
}

// neither holds both to a mapped record that is not right, and to what would be its line.
func neither(t *testing.T, r api.Record) {
	t.Helper()
	refused(t, r)
	notRead(t, told(r))
}

// names are some, at their edges too; noNames are none.
func names() []string {
	return []string{"a", "A", "0", "r1", "!", "~", ">", "a@", "a*", "a=", "a@*=", "-1", "\"\\'", strings.Repeat("x", 64), strings.Repeat("~", 64), "AS:i:1", "+", "255", "SN:c"}
}

func noNames() []string {
	return []string{"", "@", "*", "=", "@a", "*a", "=a", "@SQ", " ", " a", "a b", "a ", "\t", "a\t", "\ta", "a\tb", "a\n", "\na", "a\r", "a\x1f", "a\x7f", "\x7f", "\x00", "ä", "\xff", strings.Repeat("x", 65), strings.Repeat("x", 200)}
}

func TestExamplesOfRecords(t *testing.T) {
	if s, e := sam.Line(example()); s != exampleLine || e != api.OK {
		t.Errorf("S1: %q, %d", s, e)
	}
	if s, e := sam.Line(nowhere()); s != exampleNowhere || e != api.OK {
		t.Errorf("S1: not mapped: %q, %d", s, e)
	}
	if r, e := sam.Record(exampleLine); !same(r, example()) || e != api.OK {
		t.Errorf("S2: %s, %d", brief(r), e)
	}
	if r, e := sam.Record(exampleNowhere); !same(r, nowhere()) || e != api.OK {
		t.Errorf("S2: not mapped: %s, %d", brief(r), e)
	}
	a, b, c := example(), example(), example()
	a.Pos, b.Runs, c.Ref = 0, runs("2M"), "*"
	for _, r := range []api.Record{a, b, c} {
		neither(t, r)
	}
	notRead(t, strings.Replace(exampleLine, "AS:i:-4", "AS:i:-04", 1))
	notRead(t, strings.Replace(exampleLine, "\t3\t", "\t03\t", 1))
	notRead(t, exampleLine+"\tx")
}

func TestNames(t *testing.T) {
	for _, name := range names() {
		a, b, c := example(), nowhere(), example()
		a.Name, b.Name, c.Ref = name, name, name
		taken(t, a)
		taken(t, b)
		taken(t, c)
	}
	for _, name := range noNames() {
		a, b, c := example(), nowhere(), example()
		a.Name, b.Name, c.Ref = name, name, name
		neither(t, a)
		neither(t, b)
		neither(t, c)
	}
}

func TestBasesAndQuals(t *testing.T) {
	for _, n := range []int{1, 2, 65535, 65536} {
		taken(t, over(1, strconv.Itoa(n)+"I"))
		taken(t, over(1, strconv.Itoa(n)+"M"))
		taken(t, api.Record{Name: "r", Bases: letters(n), Quals: signs(n)})
		for _, quals := range []string{signs(n - 1), signs(n + 1), ""} {
			a, b := over(1, strconv.Itoa(n)+"I"), api.Record{Name: "r", Bases: letters(n), Quals: quals}
			a.Quals = quals
			neither(t, a)
			neither(t, b)
		}
	}
	for _, n := range []int{0, 65537, 131072} {
		neither(t, api.Record{Name: "r", Bases: letters(n), Quals: signs(n)})
	}
	neither(t, over(1, "65537I"))
	neither(t, over(1, "1S 65536I"))
	neither(t, over(1, "65536S 1I"))
	neither(t, over(1, "65536S 1D 1S"))
	neither(t, over(1, "65536S 65536I 65536S"))
	for c := range 256 {
		s := string([]byte{byte(c)})
		for _, text := range []string{"A" + s + "G", s + "CG", "AC" + s} {
			bases, quals := nowhere(), nowhere()
			bases.Bases, quals.Quals = text, text
			a, b := example(), example()
			a.Bases, b.Quals = text, text
			letter := s >= "A" && s <= "Z" || s >= "a" && s <= "z"
			sign := c >= 33 && c <= 126
			for _, r := range []struct {
				api.Record
				right bool
			}{{bases, letter}, {quals, sign}, {a, letter}, {b, sign}} {
				if r.right {
					taken(t, r.Record)
				} else {
					neither(t, r.Record)
				}
			}
		}
	}
}

func TestRuns(t *testing.T) {
	for _, s := range []string{"1M", "1I", "1S", "3S", "1S 1M", "1M 1S", "1S 1M 1S", "1S 1D", "1D 1I", "1I 1D 1I", "9M", "10M 1D 9M", "2S 3I", "1S 4D 1S", "3S 1D 2M 1I 4S", "12M 3D 4I 55M", "1M 65535D"} {
		taken(t, over(1, s))
	}
	for _, s := range []string{"", "1D", "1M 1M", "1S 1S", "1M 1S 1M", "0M", "1M 0D", "0S 1M", "1M 0S", "1D 1D 1M", "1M 65536D"} {
		neither(t, over(1, s))
	}
	for _, s := range []string{"0M 1I", "-1M", "-1D 1M", "2M -1I", "1I -1D", "1X", "1M 1N", "1=", "1m", "1H 1M", "1M 1P", "", "1D", "0M"} {
		neither(t, api.Record{Name: "r", Mapped: true, Ref: "c", Pos: 2, Runs: runs(s), Bases: "A", Quals: "I"})
	}
	// As many letters of the read as there are, and one more, and one less.
	for _, s := range []string{"1S 2M", "3M", "3I", "3S", "1M 1I 1S", "2M 9D 1I"} {
		r := over(1, s)
		taken(t, r)
		for _, n := range []int{1, 2, 4, 5} {
			r.Bases, r.Quals = letters(n), signs(n)
			neither(t, r)
		}
	}
	many := over(1, "1S")
	many.Runs = append(slices.Concat(many.Runs, slices.Repeat(runs("1M 1I"), 32767)), runs("1S")...)
	_, y := spans(many.Runs)
	many.Bases, many.Quals = letters(y), signs(y)
	taken(t, many)
	many.Runs = slices.Repeat(runs("1M 1M"), 100000)
	neither(t, many)
}

func TestRunsWithoutNumbersEnd(t *testing.T) {
	for _, l := range [][]api.Run{
		{{Op: 'M', Len: math.MaxInt}}, {{Op: 'D', Len: math.MaxInt}, {Op: 'M', Len: 3}}, {{Op: 'M', Len: math.MaxInt}, {Op: 'D', Len: math.MaxInt}, {Op: 'M', Len: 5}},
		{{Op: 'S', Len: math.MaxInt}, {Op: 'M', Len: math.MaxInt}, {Op: 'S', Len: 5}}, {{Op: 'M', Len: math.MinInt}, {Op: 'I', Len: math.MinInt}, {Op: 'M', Len: 3}}, {{}}, {{Op: 'M', Len: 3}, {}},
	} {
		for _, pos := range []int{1, 3, math.MaxInt, math.MinInt, 0} {
			r := example()
			r.Runs, r.Pos = l, pos
			neither(t, r)
		}
	}
}

func TestPos(t *testing.T) {
	for _, c := range []struct {
		runs string
		most int
	}{{"1M", 65536}, {"3M", 65534}, {"1S 2M", 65535}, {"1M 1D", 65535}, {"1D 1I", 65536}, {"3I", 65537}, {"1S", 65537}, {"65536M", 1}, {"1M 65535D", 1}, {"1I 65536D", 1}, {"2S 65534M", 3}, {"1M 1D 1I 1D 1S", 65534}} {
		for _, pos := range []int{1, 2, c.most / 2, c.most - 1, c.most, c.most + 1, c.most + 2, 65536, 65537, 65538, 131072} {
			if pos >= 1 && pos <= c.most {
				taken(t, over(pos, c.runs))
			} else {
				neither(t, over(pos, c.runs))
			}
		}
		for _, pos := range []int{0, -1, -65536, math.MinInt, math.MinInt + 1, math.MaxInt, math.MaxInt - 1, math.MaxInt - 65535, math.MaxInt - 65536, math.MaxInt - 131072, 1 << 32, 1<<32 + 1, 1 << 62} {
			neither(t, over(pos, c.runs))
		}
	}
	// Runs that take more than a reference may have leave no place at all.
	for _, pos := range []int{1, 0, -1, -65535, -65536, math.MinInt, math.MaxInt} {
		neither(t, over(pos, "1M 65536D"))
		neither(t, over(pos, "1M 131071D"))
	}
}

func TestScore(t *testing.T) {
	for _, n := range []int{0, 1, -1, 9, 10, -10, 65536, math.MaxInt, math.MaxInt - 1, math.MinInt, math.MinInt + 1, 1 << 32, -1 << 32} {
		r := example()
		r.Score = n
		taken(t, r)
	}
	for _, s := range []string{
		"", "-", "+4", "-0", "+0", "00", "04", "-04", "0004", " 4", "4 ", "4.0", "4e0", "0x4", "1_0", "4-", "--4", "٤", "a",
		"9223372036854775808", "-9223372036854775809", "18446744073709551612", "18446744073709551616", "-18446744073709551616", strings.Repeat("9", 40), "-" + strings.Repeat("1", 100000), strings.Repeat("0", 100000) + "4",
	} {
		notRead(t, strings.Replace(exampleLine, "AS:i:-4", "AS:i:"+s, 1))
	}
	for _, s := range []string{"", "-4", "AS:-4", "AS:i-4", "as:i:-4", "AS:I:-4", "AS:f:-4", "NM:i:-4", "AS:i: -4", " AS:i:-4", "AS:i:AS:i:-4", "AS:i::-4", "AS:i:-4:", "4"} {
		notRead(t, strings.Replace(exampleLine, "AS:i:-4", s, 1))
	}
}

func TestNotMapped(t *testing.T) {
	taken(t, nowhere())
	r := nowhere()
	r.Runs = []api.Run{}
	taken(t, r)
	for _, change := range []func(*api.Record){
		func(r *api.Record) { r.Ref = "c" }, func(r *api.Record) { r.Ref = "*" }, func(r *api.Record) { r.Ref = "\x00" },
		func(r *api.Record) { r.Pos = 1 }, func(r *api.Record) { r.Pos = -1 }, func(r *api.Record) { r.Pos = math.MinInt },
		func(r *api.Record) { r.Score = 1 }, func(r *api.Record) { r.Score = -1 }, func(r *api.Record) { r.Score = math.MaxInt }, func(r *api.Record) { r.Score = math.MinInt },
		func(r *api.Record) { r.Runs = runs("3M") }, func(r *api.Record) { r.Runs = runs("3S") }, func(r *api.Record) { r.Runs = runs("1D") }, func(r *api.Record) { r.Runs = make([]api.Run, 1) },
		func(r *api.Record) { r.Ref, r.Pos, r.Runs = "c", 3, runs("1S 2M") }, func(r *api.Record) { r.Pos, r.Score = 1, -1 },
	} {
		r := nowhere()
		change(&r)
		refused(t, r)
	}
	// A mapped one has all of it.
	refused(t, api.Record{Name: "r", Mapped: true, Bases: "ACG", Quals: "III"})
	refused(t, api.Record{Name: "r", Mapped: true, Ref: "c", Pos: 1, Bases: "ACG", Quals: "III"})
	refused(t, api.Record{Name: "r", Mapped: true, Ref: "c", Runs: runs("3M"), Bases: "ACG", Quals: "III"})
	refused(t, api.Record{Name: "r", Mapped: true, Pos: 1, Runs: runs("3M"), Bases: "ACG", Quals: "III"})
	refused(t, api.Record{})
	refused(t, api.Record{Mapped: true})
}

func TestFieldsOfALine(t *testing.T) {
	for _, line := range []string{exampleLine, exampleNowhere} {
		f := strings.Split(line, "\t")
		for i := range f {
			notRead(t, strings.Join(f[:i], "\t"))
			notRead(t, strings.Join(f[i+1:], "\t"))
			notRead(t, strings.Join(slices.Delete(slices.Clone(f), i, i+1), "\t"))
			for _, more := range []string{"", "*", "0", f[i]} {
				notRead(t, strings.Join(slices.Insert(slices.Clone(f), i, more), "\t"))
			}
			// Bases and signs, and names, are such with a letter more, too; but then they are too many, or another record's.
			for _, s := range []string{"", " ", f[i] + " ", " " + f[i], f[i] + "\r", f[i] + "\n", f[i] + "\x00", "\xff", f[i] + "\t", "\t" + f[i]} {
				g := slices.Clone(f)
				g[i] = s
				notRead(t, strings.Join(g, "\t"))
			}
		}
		for _, end := range []string{"\t", "\t*", "\tAS:i:0\t", "\n", "\r", "\r\n", " ", "\x00", "\tXX:i:1\tXY:i:1"} {
			notRead(t, line+end)
		}
		notRead(t, strings.ReplaceAll(line, "\t", " "))
		notRead(t, line+"\t"+line)
		notRead(t, line+strings.Repeat("\t", 1000000))
	}
	notRead(t, exampleNowhere+"\tAS:i:0")
	notRead(t, strings.TrimSuffix(exampleLine, "\tAS:i:-4"))
	for _, s := range []string{"", "\t", "r", "*", "@HD\tVN:1.6\tSO:unsorted", "@SQ\tSN:c\tLN:5", strings.Repeat("\t", 10), strings.Repeat("\t", 11), strings.Repeat("x", 1000000)} {
		notRead(t, s)
	}
}

// choices are, for each field, texts that it may have, and some that it may not.
func choices() [12][]string {
	digits := strings.Repeat("1", 30)
	return [12][]string{
		{"r", "", "*", "x~", "a b"},
		{"0", "4", "", "00", "+0", "-0", "1", "16", "*", "04", "256"},
		{"c", "*", "", "=", "c c", "d"},
		{"3", "0", "", "03", "+3", "-3", "-0", "3.0", "*", "65535", "65536", "18446744073709551619", digits, "0x3", "1"},
		{"255", "0", "", "0255", "+255", "254", "*"},
		{"1S2M", "*", "", "3M", "2M", "1S02M", "2M1M", "+1S2M", "1S2m", "0S3M", "3M0D", "1S2M1D", "18446744073709551617S2M"},
		{"*", "=", "", "c", "0"},
		{"0", "*", "", "00", "1", "-0"},
		{"0", "*", "", "00", "1", "+0"},
		{"ACG", "", "*", "AC", "ACGT", "AC1", "acg"},
		{"III", "", "*", "II", "IIII", "I I", "~!*"},
		{"AS:i:-4", "", "AS:i:-04", "AS:i:0", "AS:i:", "AS:i:+4", "as:i:4", "AS:i:9223372036854775808", "AS:i:-9223372036854775808"},
	}
}

// held holds Record to the plain reading of a line.
func held(t *testing.T, line string) {
	t.Helper()
	want, ok := plainly(line)
	got, e := sam.Record(line)
	if ok && (!same(got, want) || e != api.OK) {
		t.Fatalf("S2: Record(%q): %s, %d; want %s, OK", line, brief(got), e, brief(want))
	}
	if !ok && (!same(got, api.Record{}) || e != api.ErrRecord) {
		t.Fatalf("S2: Record(%q): %s, %d; want nothing, ErrRecord", line, brief(got), e)
	}
}

// TestLinesByFields changes up to three fields of both lines, and holds what is read to a plain reading.
func TestLinesByFields(t *testing.T) {
	c := choices()
	for _, line := range []string{exampleLine, exampleNowhere} {
		f := strings.Split(line, "\t")
		var each func(from, left int)
		each = func(from, left int) {
			held(t, strings.Join(f, "\t"))
			if left == 0 {
				return
			}
			for i := from; i < len(f); i++ {
				was := f[i]
				for _, s := range c[i] {
					f[i] = s
					each(i+1, left-1)
				}
				f[i] = was
			}
		}
		each(0, 3)
	}
}

// The chapter's words as patterns, to hold Record against.
var (
	nameForm    = `([!-)+-<>?A-~][!-~]{0,63})`
	endForm     = `\t\*\t0\t0\t([A-Za-z]+)\t([!-~]+)`
	mappedForm  = regexp.MustCompile(`^` + nameForm + `\t0\t` + nameForm + `\t([1-9][0-9]{0,4})\t255\t((?:[1-9][0-9]{0,5}[MDIS])+)` + endForm + `\tAS:i:(0|-?[1-9][0-9]*)$`)
	nowhereForm = regexp.MustCompile(`^` + nameForm + `\t4\t\*\t0\t0\t\*` + endForm + `$`)
	runForm     = regexp.MustCompile(`([0-9]+)([MDIS])`)
	sideForm    = regexp.MustCompile(`.S.|MM|DD|II|SS`)
)

// plainly reads a line by those patterns.
func plainly(line string) (api.Record, bool) {
	if p := nowhereForm.FindStringSubmatch(line); p != nil {
		return api.Record{Name: p[1], Bases: p[2], Quals: p[3]}, len(p[2]) == len(p[3]) && len(p[2]) <= 65536
	}
	p := mappedForm.FindStringSubmatch(line)
	if p == nil {
		return api.Record{}, false
	}
	r := api.Record{Name: p[1], Mapped: true, Ref: p[2], Bases: p[5], Quals: p[6]}
	r.Pos, _ = strconv.Atoi(p[3])
	score, _ := new(big.Int).SetString(p[7], 10)
	r.Score = int(score.Int64())
	ops, columns := "", 0
	for _, x := range runForm.FindAllStringSubmatch(p[4], -1) {
		n, _ := strconv.Atoi(x[1])
		r.Runs = append(r.Runs, api.Run{Op: x[2][0], Len: n})
		ops += x[2]
		if x[2] != "S" {
			columns += n
		}
	}
	x, y := spans(r.Runs)
	return r, score.IsInt64() && !sideForm.MatchString(ops) && columns <= 131072 && y == len(r.Bases) && y <= 65536 && len(r.Quals) == y && r.Pos-1+x <= 65536
}

func TestRecordOfLine(t *testing.T) {
	for _, r := range some() {
		taken(t, r)
		s, e := sam.Line(r)
		if e != api.OK {
			t.Fatalf("S5: Line(%s): %d", brief(r), e)
		}
		if got, e := sam.Record(s); !same(got, r) || e != api.OK {
			t.Errorf("S5: Record of Line: %s, %d; want %s", brief(got), e, brief(r))
		}
	}
}

// some are right records of several kinds, over the references c and d.
func some() []api.Record {
	l := []api.Record{example(), nowhere()}
	for i, s := range []string{"1M", "1S 2M", "3S 2M 1D 4M 5S", "9I", "2D 7I 1D", "11S", "1S 1M 1I 1D 1M"} {
		for _, ref := range []string{"c", "d"} {
			r := over(i+1, s)
			r.Name, r.Ref, r.Score = "r"+strconv.Itoa(len(l)), ref, 7-3*i
			u := api.Record{Name: r.Name, Bases: letters(i + 1), Quals: signs(i + 1)}
			l = append(l, r, u)
		}
	}
	return l
}

func TestRecordsStay(t *testing.T) {
	r := example()
	r.Runs = slices.Grow(r.Runs, 4)
	spare := r.Runs[:4]
	spare[2], spare[3] = api.Run{Op: 'X', Len: 7}, api.Run{Op: 'Y', Len: 8}
	before := slices.Clone(spare)
	first, _ := sam.Line(r)
	text, _ := sam.Print(refs(), r, r)
	if !slices.Equal(spare, before) || !same(r, example()) {
		t.Errorf("R5: what is handed in was changed: %v", spare)
	}
	a, _ := sam.Record(first)
	b, _ := sam.Record(first)
	a.Runs[0] = api.Run{Op: 'D', Len: 9}
	_ = append(a.Runs[:1], api.Run{}, api.Run{})
	if !same(b, example()) {
		t.Errorf("R5: two answers share runs: %s", brief(b))
	}
	if _, _, l, _, _ := sam.Parse(text); len(l) == 2 {
		l[0].Runs[0].Len = 9
		_ = append(l[0].Runs, api.Run{}, api.Run{}, api.Run{})
		if !same(l[1], example()) {
			t.Errorf("R5: two records of one answer share runs: %s", brief(l[1]))
		}
	} else {
		t.Errorf("S4: %d records", len(l))
	}
	again, _ := sam.Line(r)
	if again != first {
		t.Errorf("R6: %q, then %q", first, again)
	}
}

func FuzzRecord(f *testing.F) {
	f.Add(exampleLine)
	f.Add(exampleNowhere)
	f.Fuzz(func(t *testing.T, line string) {
		held(t, line)
		r, e := sam.Record(line)
		if e != api.OK {
			return
		}
		if s, e := sam.Line(r); s != line || e != api.OK {
			t.Fatalf("S2: Record(%q) is a record of another line: %q, %d", line, s, e)
		}
	})
}
