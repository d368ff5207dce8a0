package lines_test

import (
	"slices"
	"strings"
	"testing"

	"helix/api"
	"helix/lines"
)

// all tells the lines of a text, and the numbers that they had.
func all(text string) ([]string, []int) {
	var l []string
	var numbers []int
	r := lines.Of(text)
	for r.Next() {
		l = append(l, r.Line())
		numbers = append(numbers, r.Number())
	}
	return l, numbers
}

func TestLines(t *testing.T) {
	for _, c := range []struct {
		text string
		want []string
	}{
		{"", nil},
		{"a", []string{"a"}},
		{"a\n", []string{"a"}},
		{"\n", []string{""}},
		{"\n\n", []string{"", ""}},
		{"\na", []string{"", "a"}},
		{"a\n\nb\n", []string{"a", "", "b"}},
		{"a\r\nb", []string{"a", "b"}},
		{"a\r", []string{"a"}},
		{"\r", []string{""}},
		{"a\n\r", []string{"a", ""}},
		{"a\r\r\n", []string{"a\r"}},
		{"\r\r", []string{"\r"}},
		{"a\rb\n", []string{"a\rb"}},
		{"\ra", []string{"\ra"}},
		{"a\n\rb", []string{"a", "\rb"}},
		{"a\x00b\x0bc\x0c\n\xff", []string{"a\x00b\x0bc\x0c", "\xff"}},
		{" a \n\t", []string{" a ", "\t"}},
	} {
		got, numbers := all(c.text)
		if !slices.Equal(got, c.want) {
			t.Errorf("the lines of %q: %q, want %q", c.text, got, c.want)
		}
		for i, n := range numbers {
			if n != i+1 {
				t.Errorf("the lines of %q: number %d at place %d", c.text, n, i)
			}
		}
	}
}

func TestReaderAtItsEnds(t *testing.T) {
	r := lines.Of("a\nb")
	if r.Line() != "" || r.Number() != 0 {
		t.Errorf("ahead of the first line: %q, %d", r.Line(), r.Number())
	}
	for r.Next() {
	}
	if r.Next() || r.Number() != 2 {
		t.Errorf("behind the last line: %d, want 2", r.Number())
	}
}

func TestNames(t *testing.T) {
	for _, s := range []string{"a", "!", "~", "1", "-", ">", ">a", "a@", "a*=@", "!~", strings.Repeat("x", 64), strings.Repeat("~", 64)} {
		if !lines.IsName(s) {
			t.Errorf("%q is a name", s)
		}
	}
	for _, s := range []string{"", " ", " a", "a ", "a b", "@", "*", "=", "@a", "*a", "=a", "a\t", "a\r", "a\n", "a\x7f", "\x7f", "a\x1f", "\x00", "ä", "a\xff", strings.Repeat("x", 65), strings.Repeat("x", 200)} {
		if lines.IsName(s) {
			t.Errorf("%q is no name", s)
		}
	}
}

func TestNotes(t *testing.T) {
	for _, s := range []string{"", "a", "!", "~", "@", "*a", "=", ">", "a b", "a ", "a  b ", strings.Repeat("x", 64), "x" + strings.Repeat(" ", 63)} {
		if !lines.IsNote(s) {
			t.Errorf("%q is a note", s)
		}
	}
	for _, s := range []string{" ", " a", "  ", "a\t", "\ta", "a\r", "a\nb", "a\x1f", "a\x7f", "ä", "\xff", strings.Repeat("x", 65), " " + strings.Repeat("x", 63)} {
		if lines.IsNote(s) {
			t.Errorf("%q is no note", s)
		}
	}
}

func TestTitles(t *testing.T) {
	long := strings.Repeat("x", 64)
	for _, c := range []struct{ s, name, note string }{
		{"a", "a", ""}, {"a b", "a", "b"}, {"a b c ", "a", "b c "}, {"a @", "a", "@"}, {long + " " + long, long, long},
	} {
		if name, note, ok := lines.Title(c.s); name != c.name || note != c.note || !ok {
			t.Errorf("Title(%q): %q, %q, %v", c.s, name, note, ok)
		}
		if s := lines.Join(c.name, c.note); s != c.s {
			t.Errorf("Join(%q, %q): %q", c.name, c.note, s)
		}
	}
	for _, s := range []string{"", " ", " a", "a ", "a  ", "a  b", "@a", "@a b", "a\tb", "a b\t", long + "x", "a " + long + "x", "a\x7f b"} {
		if name, note, ok := lines.Title(s); name != "" || note != "" || ok {
			t.Errorf("Title(%q): %q, %q, %v; it is none", s, name, note, ok)
		}
	}
}

func TestLetters(t *testing.T) {
	for c := range 256 {
		s := "A" + string([]byte{byte(c)})
		want := strings.Contains("ABCDEFGHIJKLMNOPQRSTUVWXYZabcdefghijklmnopqrstuvwxyz", s[1:])
		if lines.AreLetters(s) != want || lines.AreBases(s) != want {
			t.Errorf("letters %q: %v, bases %v, want %v", s, lines.AreLetters(s), lines.AreBases(s), want)
		}
	}
	if !lines.AreLetters("") || lines.AreBases("") {
		t.Errorf("nothing has no byte that is no letter, and is no sequence's letters")
	}
	if !lines.AreBases(strings.Repeat("A", 65536)) || lines.AreBases(strings.Repeat("A", 65537)) {
		t.Errorf("65536 letters may be a sequence's, 65537 not")
	}
}

func TestSigns(t *testing.T) {
	for c := range 256 {
		one := string([]byte{byte(c)})
		want := c >= 33 && c <= 126
		for _, s := range []string{one, "I" + one, one + "I"} {
			if lines.AreSigns(s) != want {
				t.Errorf("signs %q: %v, want %v", s, !want, want)
			}
		}
	}
	if !lines.AreSigns("") || !lines.AreSigns(strings.Repeat("~", 70000)) {
		t.Errorf("nothing has no byte that is no sign, and signs may be many")
	}
}

func TestMayBeWritten(t *testing.T) {
	for _, s := range []api.Seq{{Name: "a", Bases: "A"}, {Name: "a", Note: "x y", Bases: "acGT"}, {Name: ">", Note: "@", Bases: strings.Repeat("z", 65536)}} {
		if !lines.MayBeWritten(s) {
			t.Errorf("%.80q may be written", s)
		}
	}
	for _, s := range []api.Seq{{}, {Name: "a"}, {Bases: "A"}, {Name: "@", Bases: "A"}, {Name: "a", Note: " ", Bases: "A"}, {Name: "a", Bases: "A1"}, {Name: "a", Bases: strings.Repeat("z", 65537)}} {
		if lines.MayBeWritten(s) {
			t.Errorf("%.80q may not be written", s)
		}
	}
}
