package fastq_test

import (
	"regexp"
	"slices"
	"strconv"
	"strings"
	"testing"

	"helix/api"
	"helix/fastq"
)

func taken(t *testing.T, text string, want ...api.Read) {
	t.Helper()
	l, line, e := fastq.Parse(text)
	if !slices.Equal(l, want) || line != 0 || e != api.OK {
		t.Errorf("Q1: Parse(%.80q): %.200q, %d, %d; want %.200q, 0, OK", text, l, line, e, want)
	}
}

func refused(t *testing.T, text string, want int) {
	t.Helper()
	if l, line, e := fastq.Parse(text); len(l) != 0 || line != want || e != api.ErrFastq {
		t.Errorf("Q1: Parse(%.80q): %.200q, %d, %d; want none, %d, ErrFastq", text, l, line, e, want)
	}
}

func printed(t *testing.T, want string, l ...api.Read) {
	t.Helper()
	if s, e := fastq.Print(l...); s != want || e != api.OK {
		t.Errorf("Q2: Print(%.80q): %.200q, %d; want %.200q, OK", l, s, e, want)
	}
}

func notPrinted(t *testing.T, want api.Errno, l ...api.Read) {
	t.Helper()
	if s, e := fastq.Print(l...); s != "" || e != want {
		t.Errorf("Q2: Print(%.80q): %.80q, %d; want nothing, %d", l, s, e, want)
	}
}

// letters is n of a plain rule, small ones among them, so that a piece that is left out or turned round is seen.
func letters(n int) string {
	b := make([]byte, n)
	for i := range b {
		b[i] = "ACGTacgtNnZz"[(i*i+i/5)%12]
	}
	return string(b)
}

// signs is n of a plain rule, all kinds among them.
func signs(n int) string {
	b := make([]byte, n)
	for i := range b {
		b[i] = byte(33 + (i*i+7*i)%94)
	}
	return string(b)
}

// some is n reads; several have one name, or one note.
func some(n, bases int) []api.Read {
	l := make([]api.Read, n)
	for i := range l {
		l[i] = api.Read{Name: "r" + strconv.Itoa(i%7), Bases: letters(bases + i)[i:], Quals: signs(bases + i)[i:]}
		if i%3 > 0 {
			l[i].Note = "no " + strconv.Itoa(i%5)
		}
	}
	return l
}

func title(r api.Read) string {
	if r.Note == "" {
		return r.Name
	}
	return r.Name + " " + r.Note
}

// file is a text of reads, written without the package.
func file(l []api.Read) string {
	var b strings.Builder
	for _, r := range l {
		b.WriteString("@" + title(r) + "\n" + r.Bases + "\n+\n" + r.Quals + "\n")
	}
	return b.String()
}

// titles are titles' parts that are right, at their edges too.
func titles() []api.Read {
	long := strings.Repeat("~", 64)
	return []api.Read{
		{Name: "a"}, {Name: "b", Note: "x y"}, {Name: "!", Note: "@"}, {Name: "~", Note: "* ="}, {Name: "c@*=", Note: "x  y "},
		{Name: ">a", Note: ">"}, {Name: "+", Note: "+"}, {Name: "+@", Note: "!~"}, {Name: "1", Note: "x" + strings.Repeat(" ", 63)},
		{Name: long, Note: long}, {Name: long[1:], Note: long[1:]}, {Name: strings.Repeat("x", 64)}, {Name: "-\"'\\,;|", Note: "\"'\\,;|"},
	}
}

// wrongTitles are texts that are no title.
func wrongTitles() []string {
	long := strings.Repeat("x", 65)
	return []string{
		"", " ", " a", "  a", "a ", "a  ", "a  x", "@", "*", "=", "@a", "*a", "=a", "@a x",
		"a\tx", "\ta", "a x\ty", "a \tx", "a\x1f", "a\x7f", "\x00", "a x\x1f", "a x\x7f", "ä", "a ä", "a\xff", "a\rb", "a b\rc", "\ra",
		long, "a " + long, long + " x", "a x" + strings.Repeat(" ", 64),
	}
}

func TestExamples(t *testing.T) {
	taken(t, "@r 1\nACg\n+\nI#@\n@r\nN\n+r\n!", api.Read{Name: "r", Note: "1", Bases: "ACg", Quals: "I#@"}, api.Read{Name: "r", Bases: "N", Quals: "!"})
	taken(t, "")
	taken(t, "\n\n")
	refused(t, ">r\nA\n+\nI", 1)
	refused(t, "@r\n\n+\nI", 2)
	refused(t, "@r\nA\n-\nI", 3)
	refused(t, "@r\nA\n+s\nI", 3)
	refused(t, "@r\nAC\n+\nI", 4)
	refused(t, "@r\nA\n+\n", 4)
	refused(t, "@r\nA", 3)
	refused(t, "@r\nA1\n+\nII", 2)
	refused(t, "@r\nA\n+\nI\nx", 5)
	printed(t, "@r 1\nACg\n+\nI#@\n", api.Read{Name: "r", Note: "1", Bases: "ACg", Quals: "I#@"})
	printed(t, "")
	notPrinted(t, api.ErrFastq, api.Read{Name: "r"})
}

func TestParseTakesTitles(t *testing.T) {
	for _, r := range titles() {
		r.Bases, r.Quals = "Ac", "@+"
		taken(t, file([]api.Read{r}), r)
		taken(t, "@"+title(r)+"\nAc\n+"+title(r)+"\n@+", r)
	}
}

func TestParseRefusesFirstLines(t *testing.T) {
	for _, s := range wrongTitles() {
		refused(t, "@"+s+"\nA\n+\nI\n", 1)
		refused(t, "@"+s+"\nA\n+"+s+"\nI\n", 1)
		refused(t, "@"+s, 1)
		refused(t, "\n@b\nA\n+\nI\n\n@"+s+"\nA\n+\nI\n1", 7)
	}
	for c := range 256 {
		if s := string([]byte{byte(c)}); s != "@" && s != "\n" {
			refused(t, s+"r\nA\n+\nI\n", 1)
			refused(t, "@r\nA\n+\nI\n"+s+"r\nA\n+\nI\n", 5)
			refused(t, s+"@r\nA\n+\nI\n", 1)
		}
	}
}

func TestParseLetters(t *testing.T) {
	all := "ABCDEFGHIJKLMNOPQRSTUVWXYZabcdefghijklmnopqrstuvwxyz"
	taken(t, "@a\n"+all+"\n+\n"+signs(52), api.Read{Name: "a", Bases: all, Quals: signs(52)})
	for c := range 256 {
		s := string([]byte{byte(c)})
		if strings.Contains(all, s) || s == "\n" {
			continue
		}
		refused(t, "@a\n"+s+"C\n+\nII\n", 2)
		refused(t, "@a\nA"+s+"C\n+\nIII\n", 2)
		if s != "\r" {
			refused(t, "@a\nC"+s+"\n+\nII\n", 2)
		}
	}
}

func TestParseMarks(t *testing.T) {
	r := api.Read{Name: "a", Note: "x y", Bases: "A", Quals: "I"}
	for _, mark := range []string{"+", "+a x y", "+\r", "+a x y\r"} {
		taken(t, "@a x y\nA\n"+mark+"\nI\n", r)
		taken(t, "@a x y\nA\n"+mark+"\nI\n@a x y\nA\n"+mark+"\nI", r, r)
	}
	for _, mark := range []string{
		"", "-", "++", "+ ", "+a", "+a ", "+a x", "+a x y ", "+ax y", "+a  x y", "+A x y", "+b x y", "+x y", "+a x z", "++a x y", "+@a x y", " +", "+ a x y",
		"a x y", "@a x y", "+\r\r", "+a x y\r\r", "\r", "A", "+\t", "+\x00",
	} {
		refused(t, "@a x y\nA\n"+mark+"\nI\n", 3)
		refused(t, "@a x y\nA\n"+mark, 3)
	}
	refused(t, "@a\nA\n+a \nI\n", 3)
	refused(t, "@a\nA\n+\nI\n@b\nA\n+a\nI\n", 7)
	taken(t, "@a\nA\n+a\nI\n@b\nA\n+b\nI\n", api.Read{Name: "a", Bases: "A", Quals: "I"}, api.Read{Name: "b", Bases: "A", Quals: "I"})
}

func TestParseSigns(t *testing.T) {
	for c := range 256 {
		s := string([]byte{byte(c)})
		if s == "\n" {
			continue
		}
		if c >= 33 && c <= 126 {
			taken(t, "@a\nA\n+\n"+s, api.Read{Name: "a", Bases: "A", Quals: s})
			taken(t, "@a\nACG\n+\n"+s+s+s+"\n", api.Read{Name: "a", Bases: "ACG", Quals: s + s + s})
			continue
		}
		refused(t, "@a\nA\n+\n"+s, 4)
		refused(t, "@a\nAC\n+\n"+s+"I\n", 4)
		refused(t, "@a\nACG\n+\nI"+s+"I\n", 4)
		refused(t, "@a\nAC\n+\nI"+s+"\n", 4)
	}
	refused(t, "@a\nAC\n+\nI\n", 4)
	refused(t, "@a\nAC\n+\nIII\n", 4)
	refused(t, "@a\nAC\n+\nIIII\n", 4)
	refused(t, "@a\nA\n+\n\n", 4)
	refused(t, "@a\nA\n+\n\nI\n", 4)
	// A line of signs may look like another line of a read.
	taken(t, "@a\nACG\n+\n@a@\n@b\nA\n+\n+\n@c\nA\n+c\n@\n", api.Read{Name: "a", Bases: "ACG", Quals: "@a@"}, api.Read{Name: "b", Bases: "A", Quals: "+"}, api.Read{Name: "c", Bases: "A", Quals: "@"})
}

func TestParseLines(t *testing.T) {
	a, b := api.Read{Name: "a", Bases: "ACG", Quals: "!I~"}, api.Read{Name: "b", Note: "x", Bases: "T", Quals: "@"}
	for _, s := range []string{
		"@a\nACG\n+\n!I~\n@b x\nT\n+\n@\n", "@a\nACG\n+\n!I~\n@b x\nT\n+\n@", "\n\n@a\nACG\n+a\n!I~\n\n\n@b x\nT\n+b x\n@\n\n\n",
		"@a\r\nACG\r\n+\r\n!I~\r\n@b x\r\nT\r\n+\r\n@\r\n", "@a\r\nACG\n+\r\n!I~\n@b x\nT\r\n+b x\r\n@\r", "\r\n@a\nACG\n+\n!I~\n\r\n\r\n@b x\nT\n+\n@\n\r",
	} {
		taken(t, s, a, b)
	}
	for _, s := range []string{"\n", "\r", "\r\n", "\n\r", "\n\r\n\n"} {
		taken(t, s)
	}
}

func TestParseEmptyLinesInside(t *testing.T) {
	for _, empty := range []string{"\n", "\r\n"} {
		refused(t, "@a\n"+empty+"A\n+\nI\n", 2)
		refused(t, "@a\nA\n"+empty+"+\nI\n", 3)
		refused(t, "@a\nA\n+\n"+empty+"I\n", 4)
		refused(t, "@a\nA\n+\nI\n\n@a\n"+empty, 7)
		refused(t, "@a\n"+empty, 2)
		refused(t, "@a\nA\n"+empty, 3)
		refused(t, "@a\nA\n+\n"+empty, 4)
		taken(t, empty+"@a\nA\n+\nI\n"+empty+"@a\nA\n+\nI\n"+empty, api.Read{Name: "a", Bases: "A", Quals: "I"}, api.Read{Name: "a", Bases: "A", Quals: "I"})
	}
}

func TestParseCarriageReturns(t *testing.T) {
	refused(t, "@a\r\r\nA\n+\nI", 1)
	refused(t, "@a x\r\r\nA\n+\nI", 1)
	refused(t, "@a\nA\r\r\n+\nI", 2)
	refused(t, "@a\nA\n+\r\r\nI", 3)
	refused(t, "@a\nA\n+\nI\r\r", 4)
	refused(t, "@a\nAC\n+\nI\r\r", 4)
	refused(t, "@a\nA\n+\nI\n\r\r\n", 5)
	refused(t, "@a\nA\rA\n+\nIII", 2)
	refused(t, "\r\r", 1)
	refused(t, "@\r\nA\n+\nI", 1)
	refused(t, "@a \r\nA\n+\nI", 1)
	refused(t, "\r@a\nA\n+\nI", 1)
}

func TestParseTellsTheFirstWrongLine(t *testing.T) {
	refused(t, "\n\nA\n@ \n1\n", 3)
	refused(t, "@a\n1\n-\n\n", 2)
	refused(t, "@a\nA\n-\n \n>\n", 3)
	refused(t, "@a\nA\n+\nII\n>\n", 4)
	refused(t, "@a\nA\n+\nI\n>\n1\n", 5)
	refused(t, "@a\nA\n+\nI\n\n\r\n>\n1\n", 7)
	refused(t, "@\n1\n-\n", 1)
	refused(t, " ", 1)
	refused(t, " @a\nA\n+\nI", 1)
	refused(t, "@a\n@b\nA\n+\nI", 2)
	refused(t, "@a\nA\n@b\nA\n+\nI", 3)
	refused(t, "@a\nA\n+\n@b\nA\n+\nI", 4)
	refused(t, "@a\nA\nC\n+\nII", 3)
	refused(t, "@a\nA\n+\nI\nI\n", 5)
	refused(t, "@a\nA\n+\nI\n+\n", 5)
}

func TestParseLastNotWhole(t *testing.T) {
	for i, s := range []string{"@a", "@a\nA", "@a\nA\n+"} {
		refused(t, s, i+2)
		refused(t, s+"\n", i+2)
		refused(t, s+"\r", i+2)
		refused(t, s+"\r\n", i+2)
		refused(t, "\n"+s+"\n", i+3)
		refused(t, "@b\nA\n+\nI\n\n"+s, i+7)
		refused(t, "@b\nA\n+\nI\n"+s+"\n", i+6)
	}
	refused(t, "@a x\nA\n+a x\n", 4)
	refused(t, "@a x\nA\n+a x", 4)
}

func TestParseManyReads(t *testing.T) {
	l := some(257, 3)
	taken(t, file(l[:256]), l[:256]...)
	taken(t, file(l[:256])+"\n\r\n\n", l[:256]...)
	refused(t, file(l), 1025)
	refused(t, file(l[:256])+"\n\n@x", 1027)
	refused(t, file(l[:256])+"@x\n1\n", 1025)
	refused(t, file(l[:256])+"\nx", 1026)
	one := api.Read{Name: "r", Note: "1", Bases: "A", Quals: "I"}
	taken(t, strings.Repeat("@r 1\nA\n+\nI\n", 256), slices.Repeat([]api.Read{one}, 256)...)
}

func TestParseManyLetters(t *testing.T) {
	s, q := letters(65537), signs(65537)
	most := api.Read{Name: "a", Bases: s[:65536], Quals: q[:65536]}
	taken(t, "@a\n"+most.Bases+"\n+\n"+most.Quals, most)
	taken(t, "@a\n"+most.Bases+"\r\n+\n"+most.Quals+"\r\n\n@b\nA\n+\nI", most, api.Read{Name: "b", Bases: "A", Quals: "I"})
	refused(t, "@a\n"+s+"\n+\n"+q, 2)
	refused(t, "@a\n"+s, 2)
	refused(t, "@a\n"+most.Bases+"\n+\n"+q, 4)
	refused(t, "@a\n"+most.Bases+"\n+\n"+q[:65535], 4)
	refused(t, "@a\nA\n+\nI\n@a\n"+s+"\n+\n"+q, 6)
}

func TestParseLongTexts(t *testing.T) {
	tooLong := func(text string) {
		t.Helper()
		if l, line, e := fastq.Parse(text); len(l) != 0 || line != 0 || e != api.ErrLong {
			t.Errorf("Q1: Parse(%.20q..) of %d bytes: %.80q, %d, %d; want none, 0, ErrLong", text, len(text), l, line, e)
		}
	}
	one := "@a\nACGT\n+\n!@I~\n"
	whole := one + strings.Repeat("\n", 1048576-len(one))
	taken(t, whole, api.Read{Name: "a", Bases: "ACGT", Quals: "!@I~"})
	tooLong(whole + "\n")
	tooLong(strings.Repeat("\n", 1048577))
	refused(t, strings.Repeat("\n", 1048575)+"1", 1048576)
	refused(t, strings.Repeat("\n", 1048574)+"@a", 1048576)
	// A line that is wrong doesn't outdo the length, which is named first.
	tooLong(strings.Repeat("1", 1048577))
	tooLong("@a\n" + strings.Repeat("A", 2000000))
	refused(t, strings.Repeat("1", 1048576), 1)
}

func TestPrintLines(t *testing.T) {
	a := api.Read{Name: "a", Note: "x y ", Bases: "ACGTac", Quals: "!@+I~#"}
	b := api.Read{Name: "b", Bases: "z", Quals: "@"}
	printed(t, "@a x y \nACGTac\n+\n!@+I~#\n@b\nz\n+\n@\n", a, b)
	printed(t, "@b\nz\n+\n@\n@a x y \nACGTac\n+\n!@+I~#\n", b, a)
	printed(t, "@b\nz\n+\n@\n@b\nz\n+\n@\n", b, b)
	most := api.Read{Name: "c", Bases: letters(65536), Quals: signs(65536)}
	printed(t, "@c\n"+most.Bases+"\n+\n"+most.Quals+"\n", most)
	printed(t, "", []api.Read{}...)
}

func TestPrintTakesTitles(t *testing.T) {
	l := titles()
	for i := range l {
		l[i].Bases, l[i].Quals = "Ac", "~!"
		printed(t, file(l[i:i+1]), l[i])
	}
	printed(t, file(l), l...)
}

func TestPrintRefusesReads(t *testing.T) {
	long := strings.Repeat("x", 65)
	var wrong []api.Read
	for _, name := range []string{"", "@", "*", "=", "@a", "*a", "=a", " ", " a", "a b", "a ", "a\t", "a\n", "a\r", "a\x1f", "a\x7f", "\x00", "ä", "\xff", long} {
		wrong = append(wrong, api.Read{Name: name, Bases: "A", Quals: "I"}, api.Read{Name: name, Note: "x", Bases: "A", Quals: "I"})
	}
	for _, note := range []string{" ", " x", "\t", "x\t", "x\n", "x\ny", "x\r", "\x1f", "x\x7f", "ä", "x\xff", long, " " + long[2:]} {
		wrong = append(wrong, api.Read{Name: "a", Note: note, Bases: "A", Quals: "I"})
	}
	for _, bases := range []string{"", "1", "A1", "1A", "A-", "A A", " ", "A\n", "A\r", "A\nC", "+", "A@", "A[", "A`", "A{", "Ä", "A\xff", letters(65537), letters(70000)} {
		wrong = append(wrong, api.Read{Name: "a", Bases: bases, Quals: signs(len(bases))})
	}
	for _, quals := range []string{"", "I", "III", " I", "I ", "I\n", "I\r", "I\t", "I\x1f", "I\x7f", "\x7fI", "I\x00", "I\xff", "ä", "IIII", signs(65536)} {
		wrong = append(wrong, api.Read{Name: "a", Bases: "AC", Quals: quals})
	}
	wrong = append(wrong, api.Read{}, api.Read{Name: "a"}, api.Read{Name: "a", Quals: "I"}, api.Read{Name: "a", Bases: letters(65536), Quals: signs(65535)}, api.Read{Name: "a", Bases: letters(65536), Quals: signs(65537)})
	r := api.Read{Name: "r", Bases: "A", Quals: "I"}
	for _, w := range wrong {
		notPrinted(t, api.ErrFastq, w)
		notPrinted(t, api.ErrFastq, r, w)
		notPrinted(t, api.ErrFastq, w, r)
	}
}

func TestPrintMany(t *testing.T) {
	l := some(258, 1)
	printed(t, file(l[:256]), l[:256]...)
	notPrinted(t, api.ErrLong, l[:257]...)
	notPrinted(t, api.ErrLong, l...)
	// Too many is named ahead of what may not be written.
	notPrinted(t, api.ErrLong, make([]api.Read, 257)...)
	notPrinted(t, api.ErrFastq, make([]api.Read, 256)...)
}

// filled is reads whose text has just so many bytes.
func filled(size int) []api.Read {
	var l []api.Read
	for size > 0 {
		r := api.Read{Name: "n"}
		// Beside the letters and the signs a read has seven bytes; two of one kind make the rest even.
		if (size-7)%2 == 1 {
			r.Name = "nn"
		}
		n := min((size-6-len(r.Name))/2, 65536)
		r.Bases, r.Quals = letters(n), signs(n)
		l = append(l, r)
		size -= 6 + len(r.Name) + 2*n
	}
	return l
}

func TestPrintLongTexts(t *testing.T) {
	for _, size := range []int{1048576, 1048575} {
		l := filled(size)
		s, e := fastq.Print(l...)
		if len(s) != size || s != file(l) || e != api.OK {
			t.Fatalf("Q2: a text of %d bytes: %d bytes, %d", size, len(s), e)
		}
		taken(t, s, l...)
	}
	l := filled(1048576)
	more := slices.Clone(l)
	more[3].Name += "x"
	notPrinted(t, api.ErrLong, more...)
	more = slices.Clone(l)
	more[len(l)-1].Note = "x"
	notPrinted(t, api.ErrLong, more...)
	notPrinted(t, api.ErrLong, filled(1048577)...)
	notPrinted(t, api.ErrLong, filled(1048578)...)
	// What may not be written is named ahead of the text's length, wherever it stands.
	notPrinted(t, api.ErrFastq, append(slices.Clone(more), api.Read{Name: "x"})...)
	notPrinted(t, api.ErrFastq, append([]api.Read{{Name: "x"}}, more...)...)
	big := api.Read{Name: "r", Bases: letters(65536), Quals: signs(65536)}
	notPrinted(t, api.ErrLong, slices.Repeat([]api.Read{big}, 8)...)
	notPrinted(t, api.ErrLong, slices.Repeat([]api.Read{big}, 256)...)
	notPrinted(t, api.ErrFastq, append(slices.Repeat([]api.Read{big}, 255), api.Read{})...)
	printed(t, file(slices.Repeat([]api.Read{big}, 7)), slices.Repeat([]api.Read{big}, 7)...)
}

// held is reads with all titles, of several lengths.
func held() []api.Read {
	l := titles()
	for i := range l {
		l[i].Bases, l[i].Quals = letters(i*37+1), signs(i*37+1)
	}
	return append(l, some(9, 5)...)
}

func TestParseOfPrint(t *testing.T) {
	l := append(held(), api.Read{Name: "long", Note: "all of it", Bases: letters(65536), Quals: signs(65536)})
	for n := range len(l) + 1 {
		s, e := fastq.Print(l[:n]...)
		if e != api.OK {
			t.Fatalf("Q3: Print of %d reads: %d", n, e)
		}
		if got, line, e := fastq.Parse(s); !slices.Equal(got, l[:n]) || line != 0 || e != api.OK {
			t.Fatalf("Q3: Parse of Print: %.80q, %d, %d", got, line, e)
		}
	}
}

func TestTitlesEmptyLinesAndReturnsMore(t *testing.T) {
	l := held()
	s, _ := fastq.Print(l...)
	lines := strings.Split(strings.TrimSuffix(s, "\n"), "\n")
	for i := range lines {
		more := slices.Clone(lines)
		more[i] += "\r"
		taken(t, strings.Join(more, "\n")+"\n", l...)
		taken(t, strings.Join(more, "\n"), l...)
		more = slices.Insert(slices.Clone(lines), i, "", "\r")
		if i%4 == 0 {
			taken(t, strings.Join(more, "\n")+"\n", l...)
		} else {
			refused(t, strings.Join(more, "\n")+"\n", i+1)
		}
		if i%4 == 2 {
			more = slices.Clone(lines)
			more[i] += title(l[i/4])
			taken(t, strings.Join(more, "\n")+"\n", l...)
			more[i] += "\r"
			taken(t, strings.Join(more, "\n")+"\n", l...)
		}
	}
	taken(t, strings.ReplaceAll(s, "\n", "\r\n"), l...)
	// The wrong line's number counts the empty lines.
	refused(t, "\n\r\n"+s+"\n1", 2+len(lines)+2)
}

func TestTwoFiles(t *testing.T) {
	l := some(256, 2)
	for _, n := range []int{0, 1, 127, 255, 256} {
		one, _ := fastq.Print(l[:n]...)
		two, _ := fastq.Print(l[n:]...)
		taken(t, one+"\n"+two, l...)
		taken(t, strings.TrimSuffix(one, "\n")+"\n"+two, l...)
	}
	a := api.Read{Name: "a", Bases: "A", Quals: "I"}
	taken(t, file([]api.Read{a})+"\n"+file([]api.Read{a}), a, a)
	refused(t, file(l)+"\n"+file([]api.Read{a}), 1026)
}

func TestArgumentsStay(t *testing.T) {
	l := some(5, 9)
	room := slices.Grow(slices.Clone(l), 3)
	spare := room[:8]
	spare[5].Name, spare[6].Bases = "kept", "kept"
	before := slices.Clone(spare)
	first, _ := fastq.Print(room...)
	if !slices.Equal(spare, before) {
		t.Errorf("R5: Print changed what it was handed")
	}
	got, _, _ := fastq.Parse(first)
	got[0].Bases = "changed"
	_ = append(got, api.Read{Name: "more"})
	again, _, _ := fastq.Parse(first)
	if !slices.Equal(again, l) {
		t.Errorf("R5, R6: Parse told something else the second time: %v", again)
	}
}

// The chapter's words as patterns, to hold Parse against.
var (
	titleForm   = regexp.MustCompile(`^@(([!-)+-<>?A-~][!-~]{0,63})(?: ([!-~][ -~]{0,63}))?)$`)
	lettersForm = regexp.MustCompile(`^[A-Za-z]+$`)
	signsForm   = regexp.MustCompile(`^[!-~]+$`)
)

// plainly reads short texts by those patterns.
func plainly(text string) ([]api.Read, int, api.Errno) {
	all := strings.Split(text, "\n")
	if all[len(all)-1] == "" {
		all = all[:len(all)-1]
	}
	for i := range all {
		if strings.HasSuffix(all[i], "\r") {
			all[i] = all[i][:len(all[i])-1]
		}
	}
	var l []api.Read
	for i := 0; i < len(all); i += 4 {
		for i < len(all) && all[i] == "" {
			i++
		}
		four := all[i:min(i+4, len(all))]
		if len(four) == 0 {
			break
		}
		parts := titleForm.FindStringSubmatch(four[0])
		if parts == nil || len(l) == 256 {
			return nil, i + 1, api.ErrFastq
		}
		if len(four) > 1 && !lettersForm.MatchString(four[1]) {
			return nil, i + 2, api.ErrFastq
		}
		if len(four) > 2 && four[2] != "+" && four[2] != "+"+parts[1] {
			return nil, i + 3, api.ErrFastq
		}
		if len(four) > 3 && (len(four[3]) != len(four[1]) || !signsForm.MatchString(four[3])) {
			return nil, i + 4, api.ErrFastq
		}
		if len(four) < 4 {
			return nil, len(all) + 1, api.ErrFastq
		}
		l = append(l, api.Read{Name: parts[2], Note: parts[3], Bases: four[1], Quals: four[3]})
	}
	return l, 0, api.OK
}

func TestAllShortTexts(t *testing.T) {
	signs := []string{"@", "a", "+", " ", "\n", "\r", "1", "\n+\n", "@a\nA\n+a"}
	var each func(text string, left int)
	each = func(text string, left int) {
		got, line, e := fastq.Parse(text)
		want, wantLine, wantE := plainly(text)
		if !slices.Equal(got, want) || line != wantLine || e != wantE {
			t.Fatalf("Q1: Parse(%q): %v, %d, %d; want %v, %d, %d", text, got, line, e, want, wantLine, wantE)
		}
		if left == 0 {
			return
		}
		for _, s := range signs {
			each(text+s, left-1)
		}
	}
	each("", 5)
	each("@a\nA", 5)
	each("@a\nA\n+\nI", 4)
}

func FuzzParse(f *testing.F) {
	f.Add("@r 1\nACg\r\n+\nI#@\n\n@r\nN\n+r\n!")
	f.Fuzz(func(t *testing.T, text string) {
		got, line, e := fastq.Parse(text)
		if len(text) > 10000 {
			return
		}
		if want, wantLine, wantE := plainly(text); !slices.Equal(got, want) || line != wantLine || e != wantE {
			t.Fatalf("Q1: Parse(%q): %v, %d, %d; want %v, %d, %d", text, got, line, e, want, wantLine, wantE)
		}
		if e != api.OK {
			return
		}
		s, e := fastq.Print(got...)
		if again, _, f := fastq.Parse(s); e != api.OK || f != api.OK || !slices.Equal(again, got) {
			t.Fatalf("Q3: Parse(Print(Parse(%q))): %v, %d, %d", text, again, e, f)
		}
	})
}
