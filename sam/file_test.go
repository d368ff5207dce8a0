package sam_test

import (
	"fmt"
	"math"
	"reflect"
	"regexp"
	"slices"
	"strconv"
	"strings"
	"testing"

	"helix/api"
	"helix/sam"
)

const head = "@HD\tVN:1.6\tSO:unsorted\n"

// refs are the references c, of 20 letters, and d, of 30.
func refs() []api.Seq {
	return []api.Seq{{Name: "c", Note: "x y", Bases: letters(20)}, {Name: "d", Bases: letters(30)}}
}

// manyRefs are n references, each with a name of its own.
func manyRefs(n int) []api.Seq {
	l := make([]api.Seq, n)
	for i := range l {
		l[i] = api.Seq{Name: "s" + strconv.Itoa(i), Bases: letters(i + 1)}
	}
	return l
}

// whole is a file's text, written without the package.
func whole(refs []api.Seq, l ...api.Record) string {
	var b strings.Builder
	b.WriteString(head)
	for _, s := range refs {
		fmt.Fprintf(&b, "@SQ\tSN:%s\tLN:%d\n", s.Name, len(s.Bases))
	}
	for _, r := range l {
		b.WriteString(told(r) + "\n")
	}
	return b.String()
}

// printed holds Print and Parse to references and records that may be written.
func printed(t *testing.T, refs []api.Seq, l ...api.Record) {
	t.Helper()
	want := whole(refs, l...)
	if s, e := sam.Print(refs, l...); s != want || e != api.OK {
		t.Errorf("S3: %d references, %d records: %.120q (%d bytes), %d; want %.120q (%d bytes), OK", len(refs), len(l), s, len(s), e, want, len(want))
	}
	var names []string
	var lengths []int
	for _, s := range refs {
		names, lengths = append(names, s.Name), append(lengths, len(s.Bases))
	}
	gotNames, gotLengths, got, line, e := sam.Parse(want)
	if !slices.Equal(gotNames, names) || !slices.Equal(gotLengths, lengths) || !slices.EqualFunc(got, l, same) || line != 0 || e != api.OK {
		t.Errorf("S4: Parse(%.120q): %.80v, %.80v, %d records, %d, %d; want %.80v, %.80v, %d records, 0, OK", want, gotNames, gotLengths, len(got), line, e, names, lengths, len(l))
	}
}

func notPrinted(t *testing.T, want api.Errno, refs []api.Seq, l ...api.Record) {
	t.Helper()
	if s, e := sam.Print(refs, l...); s != "" || e != want {
		t.Errorf("S3: %d references, %d records: %.120q (%d bytes), %d; want nothing, %d", len(refs), len(l), s, len(s), e, want)
	}
}

func notParsed(t *testing.T, text string, wantLine int, want api.Errno) {
	t.Helper()
	names, lengths, l, line, e := sam.Parse(text)
	if len(names) != 0 || len(lengths) != 0 || len(l) != 0 || line != wantLine || e != want {
		t.Errorf("S4: Parse(%.160q) of %d bytes: %.80v, %.80v, %d records, %d, %d; want nothing, %d, %d", text, len(text), names, lengths, len(l), line, e, wantLine, want)
	}
}

func wrongAt(t *testing.T, line int, text string) {
	t.Helper()
	notParsed(t, text, line, api.ErrSam)
}

func TestExamplesOfFiles(t *testing.T) {
	c := []api.Seq{{Name: "c", Bases: "ACGTA"}}
	if s, e := sam.Print(c, example()); s != head+"@SQ\tSN:c\tLN:5\n"+exampleLine+"\n" || e != api.OK {
		t.Errorf("S3: %q, %d", s, e)
	}
	notPrinted(t, api.ErrRecord, []api.Seq{{Name: "c", Bases: "ACG"}}, example())
	if s, e := sam.Print(nil); s != head || e != api.OK {
		t.Errorf("S3: of none: %q, %d", s, e)
	}
	wrongAt(t, 1, "")
	wrongAt(t, 1, strings.TrimSuffix(head, "\n"))
	wrongAt(t, 3, head+"@SQ\tSN:c\tLN:5\n@SQ\tSN:c\tLN:6\n")
	wrongAt(t, 2, head+exampleLine+"\n@SQ\tSN:c\tLN:5\n")
}

func TestFiles(t *testing.T) {
	l := some()
	for n := range len(l) + 1 {
		printed(t, refs(), l[:n]...)
		printed(t, refs(), l[n:]...)
	}
	printed(t, nil)
	printed(t, []api.Seq{}, []api.Record{}...)
	printed(t, nil, nowhere(), nowhere())
	printed(t, refs())
	printed(t, refs()[1:], nowhere())
	// Two records may be the same, and lie in any order.
	slices.Reverse(l)
	printed(t, refs(), append(l, l...)...)
}

func TestReferences(t *testing.T) {
	for _, name := range names() {
		r := example()
		r.Ref = name
		printed(t, []api.Seq{{Name: name, Bases: "ACGTA"}}, r)
	}
	for _, name := range noNames() {
		notPrinted(t, api.ErrSam, []api.Seq{{Name: name, Bases: "ACGTA"}})
		notPrinted(t, api.ErrSam, append(refs(), api.Seq{Name: name, Bases: "ACGTA"}), example())
		wrongAt(t, 3, head+"@SQ\tSN:c\tLN:5\n@SQ\tSN:"+name+"\tLN:5\n")
	}
	for _, note := range []string{" ", " x", "\t", "x\n", "x\x7f", "ä", strings.Repeat("x", 65)} {
		notPrinted(t, api.ErrSam, []api.Seq{{Name: "c", Note: note, Bases: "ACGTA"}})
	}
	for _, note := range []string{"x", "@", "x ", strings.Repeat("~", 64)} {
		printed(t, []api.Seq{{Name: "c", Note: note, Bases: "ACGTA"}}, example())
	}
	for _, bases := range []string{"", "1", "AC-", "A C", "A\n", "ä", letters(65537), letters(100000)} {
		notPrinted(t, api.ErrSam, []api.Seq{{Name: "c", Bases: bases}})
	}
	for _, n := range []int{1, 2, 65535, 65536} {
		printed(t, []api.Seq{{Name: "c", Bases: letters(n)}})
	}
	notPrinted(t, api.ErrSam, make([]api.Seq, 1))
}

func TestTwoOfOneName(t *testing.T) {
	for _, l := range [][]string{{"c", "c"}, {"c", "d", "c"}, {"a", "b", "c", "b"}, {"d", "c", "c"}} {
		var seqs []api.Seq
		for i, name := range l {
			seqs = append(seqs, api.Seq{Name: name, Bases: letters(5 + i)})
		}
		notPrinted(t, api.ErrSam, seqs)
		wrongAt(t, 1+len(l), whole(seqs))
		wrongAt(t, 1+len(l), whole(seqs, nowhere()))
	}
	printed(t, []api.Seq{{Name: "c", Bases: "A"}, {Name: "C", Bases: "A"}, {Name: "cc", Bases: "A"}})
}

func TestLengthsOfReferences(t *testing.T) {
	for _, n := range []string{"1", "9", "10", "65535", "65536"} {
		if names, lengths, l, line, e := sam.Parse(head + "@SQ\tSN:c\tLN:" + n + "\n"); !slices.Equal(names, []string{"c"}) || fmt.Sprint(lengths) != "["+n+"]" || len(l) != 0 || line != 0 || e != api.OK {
			t.Errorf("S4: LN:%s: %v, %v, %d, %d", n, names, lengths, line, e)
		}
	}
	for _, n := range []string{
		"", "0", "-1", "-0", "+5", "05", "005", "00", " 5", "5 ", "5.0", "5e0", "0x5", "1_0", "*", "٥", "5\r", "5\t", "5\tM5:x", "5x",
		"65537", "131072", "4294967297", "9223372036854775807", "9223372036854775808", "18446744073709551617", "18446744073709551621", strings.Repeat("1", 40), strings.Repeat("9", 100000), strings.Repeat("0", 100000) + "5",
	} {
		wrongAt(t, 2, head+"@SQ\tSN:c\tLN:"+n+"\n")
		wrongAt(t, 3, head+"@SQ\tSN:d\tLN:5\n@SQ\tSN:c\tLN:"+n+"\n")
	}
}

func TestLinesOfReferences(t *testing.T) {
	for _, s := range []string{
		"@SQ", "@SQ\t", "@SQ\tSN:c", "@SQ\tLN:5", "@SQ\tLN:5\tSN:c", "@SQ\tSN:\tLN:5", "@SQ\tSN:c\tLN", "@SQ\tSN:c\tLN:", "@SQ\tSN:c LN:5", "@SQ SN:c\tLN:5", "@SQ\tSN:c\t\tLN:5", "@SQ\t\tSN:c\tLN:5",
		"@sq\tSN:c\tLN:5", "@SQ\tsn:c\tLN:5", "@SQ\tSN:c\tln:5", "SQ\tSN:c\tLN:5", "SN:c\tLN:5", "c\tLN:5", "@SQ\tc\tLN:5", "@SQ\tSN:c\t5", "@SQ\tSN:c\tLN:5\t", "@SQ\tSN:c\tLN:5\tLN:5", "@SQ\tSN:c\tLN:5\tUR:x",
		" @SQ\tSN:c\tLN:5", "@SQ\tSN:c\tLN:5 ", "@SQ\tSN:@SQ\tSN:c\tLN:5", "@SQ\tSN:c\tLN:5\r", "@", "@HD", "@PG\tID:x", "@RG\tID:x", "@CO\tx", "@CO", strings.TrimSuffix(head, "\n"),
		"", " ", "\t", "\r", "x", "#", "*", "\x00", "\xff", ">c", strings.Repeat("\t", 11),
	} {
		wrongAt(t, 2, head+s+"\n")
		wrongAt(t, 3, head+"@SQ\tSN:e\tLN:5\n"+s+"\n")
		wrongAt(t, 3, head+"@SQ\tSN:e\tLN:5\n"+s+"\n"+exampleNowhere+"\n\n")
		wrongAt(t, 4, head+"@SQ\tSN:e\tLN:5\n"+exampleNowhere+"\n"+s+"\n@SQ\tSN:e\tLN:5\n")
	}
}

func TestHeads(t *testing.T) {
	h := strings.TrimSuffix(head, "\n")
	for _, s := range []string{
		"", "@", "@HD", "@HD\tVN:1.6", "@HD\tVN:1.5\tSO:unsorted", "@HD\tVN:1.6\tSO:unknown", "@HD\tSO:unsorted\tVN:1.6", "@HD VN:1.6 SO:unsorted", "@hd\tVN:1.6\tSO:unsorted",
		h + "\t", h + " ", h + "\r", " " + h, h + "\tGO:none", h + "\x00", h[1:], h[:len(h)-1], "\ufeff" + h, "@SQ\tSN:c\tLN:5", exampleNowhere, h + h, strings.Repeat("x", 1000000),
	} {
		wrongAt(t, 1, s)
		wrongAt(t, 1, s+"\n")
		wrongAt(t, 1, s+"\n"+head)
		wrongAt(t, 1, s+"\n@SQ\tSN:c\tLN:5\n"+exampleLine+"\n")
	}
	for i := range len(head) {
		wrongAt(t, 1, head[:i])
	}
	wrongAt(t, 2, head+head)
	wrongAt(t, 2, head+"\n")
	wrongAt(t, 2, head+"\n\n\n")
	wrongAt(t, 3, head+"@SQ\tSN:c\tLN:5\n"+head)
}

// TestLastLines cuts a right text at each of its bytes: what is left is right just behind a line feed.
func TestLastLines(t *testing.T) {
	text := whole(refs(), some()[:4]...)
	for i := 1; i < len(text); i++ {
		cut := text[:i]
		if cut[i-1] == '\n' {
			if _, _, _, line, e := sam.Parse(cut); line != 0 || e != api.OK {
				t.Errorf("S4: Parse(%q): %d, %d; want 0, OK", cut, line, e)
			}
			continue
		}
		wrongAt(t, strings.Count(cut, "\n")+1, cut)
	}
	end := whole(refs(), some()...)
	lines := strings.Count(end, "\n")
	for _, more := range []string{"x", "\r", " ", "\n", "\n\n", "\r\n", "\x00", "@SQ\tSN:e\tLN:1", "@SQ\tSN:e\tLN:1\n", exampleNowhere, exampleLine} {
		wrongAt(t, lines+1, end+more)
	}
	wrongAt(t, 1, strings.ReplaceAll(end, "\n", "\r\n"))
	wrongAt(t, 2, head+strings.ReplaceAll(strings.TrimPrefix(end, head), "\n", "\r\n"))
}

func TestWhichLineIsTold(t *testing.T) {
	c, d := "@SQ\tSN:c\tLN:5\n", "@SQ\tSN:d\tLN:5\n"
	r, u := exampleLine+"\n", exampleNowhere+"\n"
	// The lines of references stand ahead of all records, also of those that are not mapped.
	wrongAt(t, 3, head+u+c+r)
	wrongAt(t, 4, head+c+r+d)
	wrongAt(t, 5, head+c+r+u+d+r)
	wrongAt(t, 2, head+r+c)
	wrongAt(t, 3, head+d+r+c+r)
	wrongAt(t, 3, head+u+r)
	// The first wrong line is told, whatever is wrong behind it.
	wrongAt(t, 2, head+"\n"+c+c+r+"x")
	wrongAt(t, 3, head+c+c+d+"\n"+r)
	wrongAt(t, 4, head+c+u+"x\n\n"+c)
	wrongAt(t, 1, "x\n"+c+c)
	wrongAt(t, 3, head+c+"\n"+exampleLine)
	wrongAt(t, 3, head+c+exampleLine)
	wrongAt(t, 3, head+d+exampleLine)
	wrongAt(t, 5, head+c+d+u+exampleNowhere+"\t")
	// All that is wrong with a record, whatever is right about its reference.
	for _, s := range []string{
		strings.Replace(exampleLine, "-4", "-04", 1), strings.Replace(exampleLine, "\t3\t", "\t03\t", 1), strings.Replace(exampleLine, "\t3\t", "\t+3\t", 1), strings.Replace(exampleLine, "\t3\t", "\t"+strings.Repeat("3", 1000)+"\t", 1),
		strings.Replace(exampleLine, "1S2M", "2M", 1), strings.Replace(exampleLine, "1S2M", "1M2M", 1), strings.Replace(exampleLine, "III", "IIII", 1), strings.Replace(exampleLine, "III", "II ", 1),
		strings.Replace(exampleLine, "\t0\t0\t", "\t\t0\t", 1), exampleLine + "\t", exampleLine + "\r", strings.TrimSuffix(exampleLine, "\tAS:i:-4"), strings.Replace(exampleNowhere, "r", "@r", 1), exampleNowhere + "\tAS:i:0",
	} {
		wrongAt(t, 3, head+c+s+"\n")
		wrongAt(t, 5, head+c+r+u+s+"\n"+r)
	}
}

func TestWhereRecordsLie(t *testing.T) {
	for _, c := range []struct {
		pos  int
		runs string
		need int
	}{{1, "1M", 1}, {3, "1S 2M", 4}, {5, "1M 3D 1M 2S", 9}, {7, "2I", 6}, {7, "9S", 6}, {2, "3D 1I", 4}, {65536, "1M", 65536}, {65537, "1I", 65536}, {1, "65536M", 65536}, {1, "1I 65536D", 65536}} {
		r := over(c.pos, c.runs)
		for _, n := range []int{c.need, c.need + 1, 65536} {
			if n <= 65536 {
				printed(t, []api.Seq{{Name: "c", Bases: letters(n)}}, r)
				printed(t, []api.Seq{{Name: "b", Bases: "A"}, {Name: "c", Bases: letters(n)}, {Name: "d", Bases: "A"}}, nowhere(), r)
			}
		}
		for _, n := range []int{c.need - 1, c.need / 2, 1} {
			if n >= 1 && n < c.need {
				seqs := []api.Seq{{Name: "d", Bases: letters(65536)}, {Name: "c", Bases: letters(n)}}
				notPrinted(t, api.ErrRecord, seqs, r)
				notPrinted(t, api.ErrRecord, seqs, nowhere(), r, nowhere())
				wrongAt(t, 5, whole(seqs, nowhere(), r, nowhere()))
			}
		}
		for _, name := range []string{"d", "C", "cc", "b"} {
			seqs := []api.Seq{{Name: name, Bases: letters(65536)}}
			notPrinted(t, api.ErrRecord, seqs, r)
			wrongAt(t, 3, whole(seqs, r))
		}
		notPrinted(t, api.ErrRecord, nil, r)
		wrongAt(t, 2, whole(nil, r))
	}
	// A reference that there is not is missed also where nothing is taken of it.
	for _, s := range []string{"3I", "3S", "1S 1I 1S"} {
		r := over(1, s)
		printed(t, []api.Seq{{Name: "c", Bases: "A"}}, r)
		notPrinted(t, api.ErrRecord, nil, r)
		notPrinted(t, api.ErrRecord, refs()[1:], nowhere(), r)
		wrongAt(t, 2, whole(nil, r))
		wrongAt(t, 4, whole(refs()[1:], nowhere(), r))
	}
	for _, pos := range []int{0, -1, math.MinInt, math.MaxInt, math.MaxInt - 65535, 65537} {
		seqs := []api.Seq{{Name: "c", Bases: letters(65536)}}
		notPrinted(t, api.ErrRecord, seqs, over(pos, "1M"))
		wrongAt(t, 3, whole(seqs, over(pos, "1M")))
	}
}

func TestRecordsThatAreNotRight(t *testing.T) {
	a, b, c, d := example(), example(), example(), nowhere()
	a.Name, b.Runs, c.Quals, d.Score = "", runs("2M"), "IIII", 1
	for _, r := range []api.Record{a, b, c, d, {}, {Mapped: true}} {
		notPrinted(t, api.ErrRecord, refs(), r)
		notPrinted(t, api.ErrRecord, refs(), example(), r)
		notPrinted(t, api.ErrRecord, refs(), r, nowhere())
	}
}

func TestManyReferencesAndRecords(t *testing.T) {
	few, most := manyRefs(63), manyRefs(64)
	l := make([]api.Record, 257)
	for i := range l {
		l[i] = over(1+i%3, "1S 2M")
		l[i].Name, l[i].Ref = "r"+strconv.Itoa(i), "s"+strconv.Itoa(9+i%50)
	}
	printed(t, few)
	printed(t, most)
	printed(t, most, l[:255]...)
	printed(t, most, l[:256]...)
	printed(t, nil, slices.Repeat([]api.Record{nowhere()}, 256)...)
	notPrinted(t, api.ErrLong, manyRefs(65))
	notPrinted(t, api.ErrLong, manyRefs(65), l[:256]...)
	notPrinted(t, api.ErrLong, most, l...)
	notPrinted(t, api.ErrLong, nil, slices.Repeat([]api.Record{nowhere()}, 257)...)
	wrongAt(t, 66, whole(manyRefs(65)))
	wrongAt(t, 66, whole(manyRefs(66), l...))
	wrongAt(t, 322, whole(append(most[:63:63], api.Seq{Name: "x", Bases: "A"}), l...))
	wrongAt(t, 258, whole(nil, slices.Repeat([]api.Record{nowhere()}, 257)...))
	wrongAt(t, 258, whole(nil, slices.Repeat([]api.Record{nowhere()}, 256)...)+exampleNowhere)
}

func TestOrderOfErrors(t *testing.T) {
	big := api.Record{Name: "r", Bases: letters(65536), Quals: signs(65536)}
	tooLong := slices.Repeat([]api.Record{big}, 9)
	wrong, twice := []api.Seq{{}}, []api.Seq{{Name: "c", Bases: "A"}, {Name: "c", Bases: "A"}}
	// Too many is named ahead of all.
	notPrinted(t, api.ErrLong, make([]api.Seq, 65), make([]api.Record, 256)...)
	notPrinted(t, api.ErrLong, make([]api.Seq, 64), make([]api.Record, 257)...)
	notPrinted(t, api.ErrLong, nil, make([]api.Record, 257)...)
	// Then references, then records, then the text's length.
	notPrinted(t, api.ErrSam, make([]api.Seq, 64), make([]api.Record, 256)...)
	notPrinted(t, api.ErrSam, wrong, append(tooLong, api.Record{})...)
	notPrinted(t, api.ErrSam, twice, api.Record{})
	notPrinted(t, api.ErrSam, twice, tooLong...)
	notPrinted(t, api.ErrRecord, refs(), make([]api.Record, 256)...)
	notPrinted(t, api.ErrRecord, refs(), append(slices.Clone(tooLong), api.Record{})...)
	notPrinted(t, api.ErrRecord, refs()[1:], append(slices.Clone(tooLong), example())...)
	notPrinted(t, api.ErrRecord, []api.Seq{{Name: "c", Bases: "ACG"}}, append(slices.Clone(tooLong), example())...)
	notPrinted(t, api.ErrLong, refs(), append(slices.Clone(tooLong), example())...)
	notPrinted(t, api.ErrLong, nil, slices.Repeat([]api.Record{big}, 256)...)
}

// filled is records that are not mapped, whose text, with the first line, has just so many bytes.
func filled(size int) []api.Record {
	size -= len(head)
	var l []api.Record
	for size > 0 {
		r := api.Record{Name: "n"}
		bare := len(told(r)) + 1
		// Letters and signs are two bytes each time: the name makes the rest even.
		if (size-bare)%2 == 1 {
			r.Name, bare = "nn", bare+1
		}
		n := min((size-bare)/2, 65536)
		r.Bases, r.Quals = letters(n), signs(n)
		l = append(l, r)
		size -= bare + 2*n
	}
	return l
}

func TestLongTexts(t *testing.T) {
	for _, size := range []int{1048575, 1048576} {
		l := filled(size)
		if n := len(whole(nil, l...)); n != size {
			t.Fatalf("a text of %d bytes, not %d", n, size)
		}
		printed(t, nil, l...)
	}
	for _, size := range []int{1048577, 1048578, 2000000} {
		l := filled(size)
		notPrinted(t, api.ErrLong, nil, l...)
		notParsed(t, whole(nil, l...), 0, api.ErrLong)
	}
	l := filled(1048576)
	notPrinted(t, api.ErrLong, []api.Seq{{Name: "c", Bases: "A"}}, l...)
	more := slices.Clone(l)
	more[0].Name += "x"
	notPrinted(t, api.ErrLong, nil, more...)
	// A text that is too long is that, however wrong.
	notParsed(t, strings.Repeat("\n", 1048577), 0, api.ErrLong)
	notParsed(t, strings.Repeat("x", 2000000), 0, api.ErrLong)
	notParsed(t, whole(nil, l...)+"\n", 0, api.ErrLong)
	wrongAt(t, 1, strings.Repeat("\n", 1048576))
	wrongAt(t, 1, strings.Repeat("x", 1048576))
	wrongAt(t, 2, head+strings.Repeat("\n", 1048576-len(head)))
	// One byte past the end would have been the line feed: the line is told all the same.
	lacks := strings.TrimSuffix(whole(nil, filled(1048577)...), "\n")
	wrongAt(t, strings.Count(lacks, "\n")+1, lacks)
}

func TestFilesStay(t *testing.T) {
	seqs := slices.Grow(refs(), 2)
	spare := seqs[:4]
	spare[2].Name = "kept"
	l := slices.Grow(some(), 2)
	room := l[:len(l)+2]
	room[len(l)].Name = "kept"
	wantSeqs, wantRecords := slices.Clone(spare), slices.Clone(room)
	first, _ := sam.Print(seqs, l...)
	if !slices.Equal(spare, wantSeqs) || !slices.EqualFunc(room, wantRecords, same) {
		t.Errorf("R5: Print changed what it was handed")
	}
	names, lengths, got, _, _ := sam.Parse(first)
	for i := range names {
		names[i], lengths[i] = "changed", -1
	}
	clear(got)
	names, lengths, got, line, e := sam.Parse(first)
	if !slices.Equal(names, []string{"c", "d"}) || !slices.Equal(lengths, []int{20, 30}) || !slices.EqualFunc(got, l, same) || line != 0 || e != api.OK {
		t.Errorf("R6: Parse told something else the second time: %v, %v", names, lengths)
	}
}

var refForm = regexp.MustCompile(`^@SQ\tSN:` + nameForm + `\tLN:([1-9][0-9]{0,4})$`)

// answer is all that Parse tells.
type answer struct {
	names   []string
	lengths []int
	records []api.Record
	line    int
	e       api.Errno
}

// readPlainly reads a file by the patterns, from what each line may be alone.
func readPlainly(text string) answer {
	all := strings.SplitAfter(text, "\n")
	if len(all) > 1 && all[len(all)-1] == "" {
		all = all[:len(all)-1]
	}
	var a answer
	for i, s := range all {
		line, ended := strings.CutSuffix(s, "\n")
		p := refForm.FindStringSubmatch(line)
		r, isRecord := plainly(line)
		right := false
		switch {
		case i == 0:
			right = s == head
		case p != nil:
			n, _ := strconv.Atoi(p[2])
			right = n <= 65536 && len(a.records) == 0 && len(a.names) < 64 && !slices.Contains(a.names, p[1])
			a.names, a.lengths = append(a.names, p[1]), append(a.lengths, n)
		case isRecord:
			x, _ := spans(r.Runs)
			at := slices.Index(a.names, r.Ref)
			right = len(a.records) < 256 && (!r.Mapped || at >= 0 && r.Pos-1+x <= a.lengths[at])
			a.records = append(a.records, r)
		}
		if !right || !ended {
			return answer{line: i + 1, e: api.ErrSam}
		}
	}
	return a
}

// heldFile holds Parse to the plain reading of a text.
func heldFile(t *testing.T, text string) {
	t.Helper()
	want := readPlainly(text)
	var got answer
	got.names, got.lengths, got.records, got.line, got.e = sam.Parse(text)
	if !slices.Equal(got.names, want.names) || !slices.Equal(got.lengths, want.lengths) || !slices.EqualFunc(got.records, want.records, same) || got.line != want.line || got.e != want.e {
		t.Fatalf("S4: Parse(%q): %v; want %v", text, got, want)
	}
}

// TestFilesByLines puts all short rows of some lines together, and holds what is read to a plain reading.
func TestFilesByLines(t *testing.T) {
	other := strings.Replace(exampleLine, "\tc\t", "\td\t", 1)
	parts := []string{head, "@SQ\tSN:c\tLN:5\n", "@SQ\tSN:c\tLN:3\n", "@SQ\tSN:d\tLN:4\n", exampleLine + "\n", exampleNowhere + "\n", other + "\n", exampleNowhere, "\n", "\r"}
	var each func(text string, left int)
	each = func(text string, left int) {
		heldFile(t, text)
		for _, s := range parts {
			if left > 0 {
				each(text+s, left-1)
			}
		}
	}
	each("", 2)
	each(head, 4)
	each(head+parts[1], 3)
}

func FuzzParse(f *testing.F) {
	f.Add(whole(refs(), some()...))
	f.Add(head + "@SQ\tSN:c\tLN:5\n" + exampleLine + "\n" + exampleNowhere + "\n")
	f.Fuzz(func(t *testing.T, text string) {
		if len(text) > 100000 {
			return
		}
		heldFile(t, text)
		names, lengths, l, _, e := sam.Parse(text)
		if e != api.OK {
			return
		}
		var seqs []api.Seq
		for i := range names {
			seqs = append(seqs, api.Seq{Name: names[i], Bases: letters(lengths[i])})
		}
		if s, e := sam.Print(seqs, l...); s != text || e != api.OK {
			t.Fatalf("S4: Parse(%q) is of another text: %q, %d", text, s, e)
		}
	})
}

// TestZeroBesideAnError looks at each result of a call that is refused, or too long.
func TestZeroBesideAnError(t *testing.T) {
	c := "@SQ\tSN:c\tLN:5\n"
	for _, text := range []string{head + c + exampleLine + "\n\n", head + c + exampleLine, strings.Repeat("x", 1048577)} {
		if names, lengths, l, _, e := sam.Parse(text); len(names)+len(lengths)+len(l) != 0 || e == api.OK {
			t.Errorf("R3: %v, %v, %v, %d", names, lengths, l, e)
		}
	}
	if r, e := sam.Record(exampleLine + "\t"); !reflect.DeepEqual(r, api.Record{}) || e != api.ErrRecord {
		t.Errorf("R3: %v, %d", r, e)
	}
}
