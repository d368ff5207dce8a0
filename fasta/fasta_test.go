package fasta_test

import (
	"regexp"
	"slices"
	"strconv"
	"strings"
	"testing"

	"helix/api"
	"helix/fasta"
)

func taken(t *testing.T, text string, want ...api.Seq) {
	t.Helper()
	l, line, e := fasta.Parse(text)
	if !slices.Equal(l, want) || line != 0 || e != api.OK {
		t.Errorf("F1: Parse(%.80q): %.200q, %d, %d; want %.200q, 0, OK", text, l, line, e, want)
	}
}

func refused(t *testing.T, text string, want int) {
	t.Helper()
	if l, line, e := fasta.Parse(text); len(l) != 0 || line != want || e != api.ErrFasta {
		t.Errorf("F1: Parse(%.80q): %.200q, %d, %d; want none, %d, ErrFasta", text, l, line, e, want)
	}
}

func printed(t *testing.T, want string, width int, l ...api.Seq) {
	t.Helper()
	if s, e := fasta.Print(width, l...); s != want || e != api.OK {
		t.Errorf("F2: Print(%d, %.80q): %.200q, %d; want %.200q, OK", width, l, s, e, want)
	}
}

func notPrinted(t *testing.T, want api.Errno, width int, l ...api.Seq) {
	t.Helper()
	if s, e := fasta.Print(width, l...); s != "" || e != want {
		t.Errorf("F2: Print(%d, %.80q): %.80q, %d; want nothing, %d", width, l, s, e, want)
	}
}

// letters is n of a plain rule, small ones among them, so that a piece that is left out or turned round is seen.
func letters(n int) string {
	b := make([]byte, n)
	for i := range b {
		b[i] = "ACGTacgtNnZz"[(i*i+i/5)%12]
	}
	return string(b)
}

// some is n sequences, each with a name of its own.
func some(n, bases int) []api.Seq {
	l := make([]api.Seq, n)
	for i := range l {
		l[i] = api.Seq{Name: "s" + strconv.Itoa(i), Bases: letters(bases + i)[i:]}
	}
	return l
}

// file is a text of sequences, each with its letters in one line, written without the package.
func file(l []api.Seq) string {
	var b strings.Builder
	for _, s := range l {
		b.WriteString(">" + s.Name)
		if s.Note != "" {
			b.WriteString(" " + s.Note)
		}
		b.WriteString("\n" + s.Bases + "\n")
	}
	return b.String()
}

// titles are titles' parts that are right, at their edges too.
func titles() []api.Seq {
	long := strings.Repeat("~", 64)
	return []api.Seq{
		{Name: "a"}, {Name: "b", Note: "x y"}, {Name: "!", Note: "@"}, {Name: "~", Note: "* ="}, {Name: "c@*=", Note: "x  y "},
		{Name: ">a", Note: ">"}, {Name: ">", Note: "!~"}, {Name: "A", Note: "a"}, {Name: "1", Note: "x" + strings.Repeat(" ", 63)},
		{Name: long, Note: long}, {Name: long[1:], Note: long[1:]}, {Name: strings.Repeat("x", 64)}, {Name: "-\"'\\,;|", Note: "\"'\\,;|"},
	}
}

// wrongTitles are texts that are no title.
func wrongTitles() []string {
	long := strings.Repeat("x", 65)
	return []string{
		"", " ", " a", "  a", "a ", "a  ", "a  x", "@", "*", "=", "@a", "*a", "=a", "@a x",
		"a\tx", "\ta", "a x\ty", "a \tx", "a\x1f", "a\x7f", "\x00", "a x\x1f", "a x\x7f", "ä", "a ä", "a\xff", "a\rb", "a b\rc", "\ra",
		long, "a " + long, long + " x", "a x" + strings.Repeat(" ", 64),
	}
}

func TestExamples(t *testing.T) {
	taken(t, ">a x y\nAC\ngt\n\n>b\nN", api.Seq{Name: "a", Note: "x y", Bases: "ACgt"}, api.Seq{Name: "b", Bases: "N"})
	taken(t, "")
	taken(t, "\n\n")
	refused(t, "A\n>a", 1)
	refused(t, ">a\n\n>b\nA", 3)
	refused(t, ">a\nA\n>a\nA", 3)
	refused(t, ">a\nA1", 2)
	refused(t, ">a", 2)
	refused(t, ">a\n", 2)
	refused(t, "> a\nA", 1)
	refused(t, ">a \nA", 1)
	refused(t, ">@a\nA", 1)
	printed(t, ">a x\nACG\nTA\n", 3, api.Seq{Name: "a", Note: "x", Bases: "ACGTA"})
	notPrinted(t, api.ErrArg, 0)
	printed(t, "", 1)
	notPrinted(t, api.ErrFasta, 1, api.Seq{Name: "a"})
	notPrinted(t, api.ErrFasta, 1, api.Seq{Name: "a", Bases: "A"}, api.Seq{Name: "a", Bases: "C"})
}

func TestParseTakesTitles(t *testing.T) {
	for _, s := range titles() {
		s.Bases = "Ac"
		taken(t, file([]api.Seq{s}), s)
	}
}

func TestParseRefusesTitles(t *testing.T) {
	for _, s := range wrongTitles() {
		refused(t, ">"+s+"\nA\n", 1)
		refused(t, ">"+s, 1)
		refused(t, "\n>b\nA\n\n>"+s+"\nA\n>b\n", 5)
	}
}

func TestParseTakesLetters(t *testing.T) {
	all := "ABCDEFGHIJKLMNOPQRSTUVWXYZabcdefghijklmnopqrstuvwxyz"
	taken(t, ">a\n"+all, api.Seq{Name: "a", Bases: all})
	for c := range 256 {
		s := string([]byte{byte(c)})
		if !strings.Contains(all, s) && s != "\n" && s != "\r" {
			refused(t, ">a\nA\nC"+s+"\nA\n", 3)
		}
		if !strings.Contains(all, s) && s != "\n" && s != "\r" && s != ">" {
			refused(t, ">a\nA\n"+s+"C\n", 3)
		}
	}
}

func TestParseLines(t *testing.T) {
	a, b := api.Seq{Name: "a", Bases: "ACG"}, api.Seq{Name: "b", Note: "x", Bases: "T"}
	for _, s := range []string{
		">a\nACG\n>b x\nT\n", ">a\nACG\n>b x\nT", ">a\nA\nC\nG\n>b x\nT", "\n\n>a\n\nA\n\n\nCG\n\n>b x\n\nT\n\n\n",
		">a\r\nACG\r\n>b x\r\nT\r\n", ">a\r\nACG\n>b x\r\nT\r", "\r\n>a\n\r\nACG\n\r\n\r\n>b x\nT\n\r",
	} {
		taken(t, s, a, b)
	}
	for _, s := range []string{"\n", "\r", "\r\n", "\n\r", "\n\r\n\n"} {
		taken(t, s)
	}
}

func TestParseCarriageReturns(t *testing.T) {
	refused(t, ">a\r\r\nA", 1)
	refused(t, ">a x\r\r\nA", 1)
	refused(t, ">a\nA\r\r\n", 2)
	refused(t, ">a\nA\n\r\r\n", 3)
	refused(t, ">a\nA\n\rA\n", 3)
	refused(t, ">a\nA\rA\n", 2)
	refused(t, "\r\r", 1)
	refused(t, ">\r\nA", 1)
	refused(t, ">a \r\nA", 1)
}

func TestParseTellsTheFirstWrongLine(t *testing.T) {
	refused(t, "\n\nA\n1\n>@\n", 3)
	refused(t, ">a\nA1\n> \n>a\n", 2)
	refused(t, ">a\nA\n> \nA1\n>a\n", 3)
	refused(t, ">a\nA\n>a\n>a\n1", 3)
	refused(t, ">a\n>b\n>a\n", 2)
	refused(t, ">a\n\n\r\n>b\nA", 4)
	refused(t, ">a\nA\n>b\nC\n>c\n>b\nC", 6)
	refused(t, ">a\nA\n>b\nC\n\n>a x\nC", 6)
	refused(t, "\r\n1", 2)
	refused(t, "-", 1)
	refused(t, " ", 1)
	refused(t, " >a\nA", 1)
	refused(t, ";a\n>a\nA", 1)
	taken(t, ">a\nA\n>A\nA\n>aa\nA", api.Seq{Name: "a", Bases: "A"}, api.Seq{Name: "A", Bases: "A"}, api.Seq{Name: "aa", Bases: "A"})
}

func TestParseLastWithoutLetters(t *testing.T) {
	refused(t, ">a\r", 2)
	refused(t, ">a\n\n", 3)
	refused(t, ">a\n\r", 3)
	refused(t, ">a\n\n\n\r\n", 5)
	refused(t, ">a\nA\n>b", 4)
	refused(t, ">a\nA\n>b x\n", 4)
	refused(t, "\n>a\nA\n\n>b x\n\n\n", 8)
}

func TestParseManySequences(t *testing.T) {
	l := some(65, 3)
	taken(t, file(l[:64]), l[:64]...)
	taken(t, file(l[:64])+"\nA\n\nC", append(slices.Clone(l[:63]), api.Seq{Name: "s63", Bases: l[63].Bases + "AC"})...)
	refused(t, file(l), 129)
	refused(t, file(l[:64])+"\n\n>x", 131)
	refused(t, file(l[:64])+">s64\n1\n", 129)
}

func TestParseManyLetters(t *testing.T) {
	s := letters(65537)
	most := api.Seq{Name: "a", Bases: s[:65536]}
	taken(t, ">a\n"+most.Bases, most)
	taken(t, ">a\n"+most.Bases+"\r\n\n>b\nA", most, api.Seq{Name: "b", Bases: "A"})
	taken(t, ">b\nA\n>a\n"+most.Bases[:40000]+"\n"+most.Bases[40000:65535]+"\n\n"+most.Bases[65535:]+"\n", api.Seq{Name: "b", Bases: "A"}, most)
	refused(t, ">a\n"+s, 2)
	refused(t, ">a\n"+s[:65536]+"\nA\n", 3)
	refused(t, ">a\n"+s[:40000]+"\n\n"+s[40000:]+"\n", 4)
	refused(t, ">a\nA\n>b\nC\n"+s[:65536]+"\n", 5)
	var b strings.Builder
	for i := range 65536 {
		b.WriteString(s[i:i+1] + "\n")
	}
	taken(t, ">a\n"+b.String(), most)
	refused(t, ">a\n"+b.String()+"\n\nC", 65540)
}

func TestParseLongTexts(t *testing.T) {
	tooLong := func(text string) {
		t.Helper()
		if l, line, e := fasta.Parse(text); len(l) != 0 || line != 0 || e != api.ErrLong {
			t.Errorf("F1: Parse(%.20q..) of %d bytes: %.80q, %d, %d; want none, 0, ErrLong", text, len(text), l, line, e)
		}
	}
	one := ">a\nACGT\n"
	whole := one + strings.Repeat("\n", 1048576-len(one))
	taken(t, whole, api.Seq{Name: "a", Bases: "ACGT"})
	tooLong(whole + "\n")
	tooLong(strings.Repeat("\n", 1048577))
	refused(t, strings.Repeat("\n", 1048575)+"1", 1048576)
	// A line that is wrong doesn't outdo the length, which is named first.
	tooLong(strings.Repeat("1", 1048577))
	tooLong(">a\n" + strings.Repeat("A", 2000000))
	refused(t, strings.Repeat("1", 1048576), 1)
}

func TestPrintLines(t *testing.T) {
	a := api.Seq{Name: "a", Note: "x y ", Bases: "ACGTac"}
	b := api.Seq{Name: "b", Bases: "z"}
	printed(t, ">a x y \nA\nC\nG\nT\na\nc\n>b\nz\n", 1, a, b)
	printed(t, ">b\nz\n>a x y \nAC\nGT\nac\n", 2, b, a)
	printed(t, ">a x y \nACG\nTac\n", 3, a)
	printed(t, ">a x y \nACGTa\nc\n", 5, a)
	printed(t, ">a x y \nACGTac\n>b\nz\n", 6, a, b)
	printed(t, ">a x y \nACGTac\n", 7, a)
	printed(t, "", 200)
	s := letters(401)
	printed(t, ">c\n"+s[:200]+"\n"+s[200:400]+"\n"+s[400:]+"\n", 200, api.Seq{Name: "c", Bases: s})
	printed(t, ">c\n"+s[:200]+"\n"+s[200:400]+"\n", 200, api.Seq{Name: "c", Bases: s[:400]})
}

func TestPrintWidths(t *testing.T) {
	for _, width := range []int{0, 201, -1, 1 << 40, -1 << 63, 1<<63 - 1} {
		notPrinted(t, api.ErrArg, width)
		notPrinted(t, api.ErrArg, width, api.Seq{Name: "a", Bases: "A"})
		// ErrArg is named ahead of all others.
		notPrinted(t, api.ErrArg, width, api.Seq{})
		notPrinted(t, api.ErrArg, width, some(65, 1)...)
		notPrinted(t, api.ErrArg, width, some(17, 65536)...)
	}
}

func TestPrintTakesTitles(t *testing.T) {
	l := titles()
	for i := range l {
		l[i].Bases = "Ac"
		printed(t, file(l[i:i+1]), 2, l[i])
	}
	printed(t, file(l), 2, l...)
}

func TestPrintRefusesSequences(t *testing.T) {
	long := strings.Repeat("x", 65)
	var wrong []api.Seq
	for _, name := range []string{"", "@", "*", "=", "@a", "*a", "=a", " ", " a", "a b", "a ", "a\t", "a\n", "a\r", "a\x1f", "a\x7f", "\x00", "ä", "\xff", long} {
		wrong = append(wrong, api.Seq{Name: name, Bases: "A"}, api.Seq{Name: name, Note: "x", Bases: "A"})
	}
	for _, note := range []string{" ", " x", "\t", "x\t", "x\n", "x\ny", "x\r", "\x1f", "x\x7f", "ä", "x\xff", long, " " + long[2:]} {
		wrong = append(wrong, api.Seq{Name: "a", Note: note, Bases: "A"})
	}
	for _, bases := range []string{"", "1", "A1", "1A", "A-", "A A", " ", "A\n", "A\r", "A\nC", ">A", "A@", "A[", "A`", "A{", "Ä", "A\xff", letters(65537), letters(70000)} {
		wrong = append(wrong, api.Seq{Name: "a", Bases: bases})
	}
	for _, s := range wrong {
		notPrinted(t, api.ErrFasta, 60, s)
		notPrinted(t, api.ErrFasta, 60, api.Seq{Name: "r", Bases: "A"}, s)
		notPrinted(t, api.ErrFasta, 60, s, api.Seq{Name: "r", Bases: "A"})
	}
}

func TestPrintRefusesOneNameTwice(t *testing.T) {
	l := some(64, 3)
	printed(t, file(l), 200, l...)
	for _, twice := range [][2]int{{0, 1}, {0, 63}, {62, 63}, {20, 40}} {
		m := slices.Clone(l)
		m[twice[1]].Name = m[twice[0]].Name
		notPrinted(t, api.ErrFasta, 200, m...)
	}
	printed(t, ">a x\nA\n>A x\nA\n", 1, api.Seq{Name: "a", Note: "x", Bases: "A"}, api.Seq{Name: "A", Note: "x", Bases: "A"})
}

func TestPrintMany(t *testing.T) {
	l := some(66, 1)
	printed(t, file(l[:64]), 200, l[:64]...)
	notPrinted(t, api.ErrLong, 200, l[:65]...)
	notPrinted(t, api.ErrLong, 200, l...)
	// Too many is named ahead of what may not be written.
	notPrinted(t, api.ErrLong, 200, make([]api.Seq, 65)...)
	notPrinted(t, api.ErrFasta, 200, make([]api.Seq, 64)...)
}

// filled is sequences whose text, at width 64, has just so many bytes.
func filled(size int) []api.Seq {
	var l []api.Seq
	for i := 0; size > 0; i++ {
		name := "n" + strconv.Itoa(10+i)
		most := size - len(name) - 2
		// n letters take n + ceil(n / 64) bytes: of 65 bytes, 64 are letters.
		n := min(most-(most+64)/65, 65536)
		l = append(l, api.Seq{Name: name, Bases: letters(n)})
		size -= len(name) + 2 + n + (n+63)/64
	}
	return l
}

func TestPrintLongTexts(t *testing.T) {
	l := filled(1048576)
	s, e := fasta.Print(64, l...)
	if len(s) != 1048576 || e != api.OK {
		t.Fatalf("F2: a text of 1048576 bytes: %d bytes, %d", len(s), e)
	}
	taken(t, s, l...)
	more := slices.Clone(l)
	more[3].Note = "x"
	notPrinted(t, api.ErrLong, 64, more...)
	more = slices.Clone(l)
	more[len(l)-1].Bases += "A"
	notPrinted(t, api.ErrLong, 64, more...)
	notPrinted(t, api.ErrLong, 63, l...)
	more = slices.Clone(l)
	more[3].Name += "x"
	notPrinted(t, api.ErrLong, 64, more...)
	more[3].Name = more[2].Name
	notPrinted(t, api.ErrFasta, 1, more...)
	more = append(slices.Clone(l), api.Seq{Name: "x"})
	notPrinted(t, api.ErrFasta, 1, more...)
	notPrinted(t, api.ErrLong, 200, some(64, 65536)...)
	notPrinted(t, api.ErrLong, 1, some(64, 65536)...)
	notPrinted(t, api.ErrLong, 200, some(17, 65536)...)
}

func TestParseOfPrint(t *testing.T) {
	l := titles()
	for i := range l {
		l[i].Bases = letters(i*37 + 1)
	}
	l = append(l, api.Seq{Name: "long", Note: "all of it", Bases: letters(65536)})
	for width := 1; width <= 200; width++ {
		s, e := fasta.Print(width, l...)
		if e != api.OK {
			t.Fatalf("F3: Print(%d): %d", width, e)
		}
		if got, line, e := fasta.Parse(s); !slices.Equal(got, l) || line != 0 || e != api.OK {
			t.Fatalf("F3: Parse of Print(%d): %.80q, %d, %d", width, got, line, e)
		}
	}
}

func TestEmptyLinesAndReturnsMore(t *testing.T) {
	l := []api.Seq{{Name: "a", Note: "x y", Bases: letters(10)}, {Name: "b", Bases: letters(7)}}
	s, _ := fasta.Print(3, l...)
	lines := strings.Split(strings.TrimSuffix(s, "\n"), "\n")
	for i := range lines {
		more := slices.Clone(lines)
		more[i] += "\r"
		taken(t, strings.Join(more, "\n")+"\n", l...)
		taken(t, strings.Join(more, "\n"), l...)
		more = slices.Insert(slices.Clone(lines), i, "", "\r")
		taken(t, strings.Join(more, "\n")+"\n", l...)
	}
	taken(t, strings.ReplaceAll(s, "\n", "\r\n\r\n\n"), l...)
	// The wrong line's number counts the empty lines.
	refused(t, "\n\r\n"+strings.ReplaceAll(s, "\n", "\r\n\n")+"1", 2+2*len(lines)+1)
}

func TestTwoFiles(t *testing.T) {
	l := some(64, 2)
	for _, n := range []int{0, 1, 31, 63, 64} {
		one, _ := fasta.Print(1, l[:n]...)
		two, _ := fasta.Print(2, l[n:]...)
		taken(t, one+"\n"+two, l...)
		taken(t, strings.TrimSuffix(one, "\n")+"\n"+two, l...)
	}
	refused(t, ">a\nA\n"+"\n"+">a\nA\n", 4)
}

func TestArgumentsStay(t *testing.T) {
	l := some(5, 9)
	room := slices.Grow(slices.Clone(l), 3)
	spare := room[:8]
	spare[5].Name, spare[6].Bases = "kept", "kept"
	before := slices.Clone(spare)
	first, _ := fasta.Print(4, room...)
	if !slices.Equal(spare, before) {
		t.Errorf("R5: Print changed what it was handed")
	}
	got, _, _ := fasta.Parse(first)
	got[0].Bases = "changed"
	_ = append(got, api.Seq{Name: "more"})
	again, _, _ := fasta.Parse(first)
	if !slices.Equal(again, l) {
		t.Errorf("R5, R6: Parse told something else the second time: %v", again)
	}
}

// The chapter's words as patterns, to hold Parse against.
var (
	titleForm   = regexp.MustCompile(`^>([!-)+-<>?A-~][!-~]{0,63})(?: ([!-~][ -~]{0,63}))?$`)
	lettersForm = regexp.MustCompile(`^[A-Za-z]+$`)
)

// plainly reads short texts by those patterns.
func plainly(text string) ([]api.Seq, int, api.Errno) {
	var l []api.Seq
	all := strings.Split(text, "\n")
	if all[len(all)-1] == "" {
		all = all[:len(all)-1]
	}
	for i, line := range all {
		if strings.HasSuffix(line, "\r") {
			line = line[:len(line)-1]
		}
		bare := len(l) > 0 && l[len(l)-1].Bases == ""
		parts := titleForm.FindStringSubmatch(line)
		switch {
		case line == "":
		case parts != nil && !bare && !slices.ContainsFunc(l, func(s api.Seq) bool { return s.Name == parts[1] }):
			l = append(l, api.Seq{Name: parts[1], Note: parts[2]})
		case lettersForm.MatchString(line) && len(l) > 0:
			l[len(l)-1].Bases += line
		default:
			return nil, i + 1, api.ErrFasta
		}
	}
	if len(l) > 0 && l[len(l)-1].Bases == "" {
		return nil, len(all) + 1, api.ErrFasta
	}
	return l, 0, api.OK
}

func TestAllShortTexts(t *testing.T) {
	signs := []string{">", "a", "b", "@", " ", "\n", "\r", "1", "\n>a\nA\n"}
	var each func(text string, left int)
	each = func(text string, left int) {
		got, line, e := fasta.Parse(text)
		want, wantLine, wantE := plainly(text)
		if !slices.Equal(got, want) || line != wantLine || e != wantE {
			t.Fatalf("F1: Parse(%q): %v, %d, %d; want %v, %d, %d", text, got, line, e, want, wantLine, wantE)
		}
		if left == 0 {
			return
		}
		for _, s := range signs {
			each(text+s, left-1)
		}
	}
	each("", 5)
	each(">a\nA\n", 5)
}

func FuzzParse(f *testing.F) {
	f.Add(">a x y\nAC\r\ngt\n\n>b\nN")
	f.Fuzz(func(t *testing.T, text string) {
		got, line, e := fasta.Parse(text)
		if len(text) > 10000 {
			return
		}
		if want, wantLine, wantE := plainly(text); len(want) <= 64 && (!slices.Equal(got, want) || line != wantLine || e != wantE) {
			t.Fatalf("F1: Parse(%q): %v, %d, %d; want %v, %d, %d", text, got, line, e, want, wantLine, wantE)
		}
		if e != api.OK {
			return
		}
		s, e := fasta.Print(1+len(text)%200, got...)
		if again, _, f := fasta.Parse(s); e != api.OK || f != api.OK || !slices.Equal(again, got) {
			t.Fatalf("F3: Parse(Print(Parse(%q))): %v, %d, %d", text, again, e, f)
		}
	})
}
