package code_test

import (
	"math"
	"slices"
	"strings"
	"testing"

	"helix/api"
	"helix/code"
)

// sameCode holds lists without asking whether they are nil or empty.
func sameCode(a, b api.Code) bool {
	return a.Letters == b.Letters && a.Planes == b.Planes && a.Regs == b.Regs && a.Lo == b.Lo && a.Hi == b.Hi && a.Most == b.Most &&
		slices.Equal(a.Table, b.Table) && slices.Equal(a.Consts, b.Consts) && slices.Equal(a.Cell, b.Cell) && slices.Equal(a.Arrows, b.Arrows)
}

// copied has memory of its own.
func copied(c api.Code) api.Code {
	c.Table, c.Consts, c.Cell, c.Arrows = slices.Clone(c.Table), slices.Clone(c.Consts), slices.Clone(c.Cell), slices.Clone(c.Arrows)
	return c
}

// small is the chapter's first example.
func small() api.Code {
	return api.Code{
		Letters: 2, Planes: 1, Regs: 1, Most: 5, Table: []int{1, -1, -1, 1}, Consts: []int{0},
		Cell: []api.Instr{{Op: api.OpStart, C: 3}, {Op: api.OpKeep}, {Op: api.OpEnd, C: 3}},
	}
}

// smallBytes are its bytes, without the check.
const smallBytes = "HLX1" + "\x04\x02\x02\x00\x00\x0a" + "\x02\x01\x01\x02" + "\x02\x00" + "\x06\x04\x00\x00\x06" + "\x0e\x00\x00\x00" + "\x10\x00\x00\x06" + "\x00"

// taken holds a right code to all promises; so does the plain reading. It tells the bytes.
func taken(t *testing.T, c api.Code) string {
	t.Helper()
	if !plainRight(c) {
		t.Fatalf("the test's own code is wrong: %+v", c)
	}
	if !code.Right(c) {
		t.Fatalf("K1: %+v is not right", c)
	}
	s, e := code.Encode(c)
	if want := plainEncode(c); e != api.OK || s != want {
		t.Fatalf("K2: Encode(%+v): %x, %v, not %x", c, s, e, want)
	}
	if back, e := code.Decode(s); e != api.OK || !sameCode(back, c) {
		t.Fatalf("K3, K5: Decode(%x): %+v, %v, not %+v", s, back, e, c)
	}
	l, e := code.List(c)
	if want := plainList(c); e != api.OK || l != want {
		t.Fatalf("K4: List(%+v): %q, %v, not %q", c, l, e, want)
	}
	return s
}

// refused holds a wrong code to all promises.
func refused(t *testing.T, what string, c api.Code) {
	t.Helper()
	if plainRight(c) {
		t.Fatalf("%s: the test's own code is right: %+v", what, c)
	}
	if code.Right(c) {
		t.Errorf("K1: %s: right", what)
	}
	if s, e := code.Encode(c); s != "" || e != api.ErrCode {
		t.Errorf("K2: %s: Encode: %x, %v", what, s, e)
	}
	if l, e := code.List(c); l != "" || e != api.ErrCode {
		t.Errorf("K4: %s: List: %q, %v", what, l, e)
	}
	decodes(t, what, plainEncode(c)) // a table that is too short may take what stands behind it, and be another code's
}

// decodes holds Decode to the plain reading of any bytes; it tells whether they are a code's.
func decodes(t *testing.T, what, s string) bool {
	t.Helper()
	want, right := plainDecode(s)
	got, e := code.Decode(s)
	if right != (e == api.OK) || !right && e != api.ErrCode || !sameCode(got, want) {
		t.Fatalf("K3: %s: Decode(%.200x): %.200v, %v, not %.200v, %v", what, s, got, e, want, right)
	}
	return right
}

// noCode holds Decode to refuse bytes.
func noCode(t *testing.T, what, s string) {
	t.Helper()
	if c, e := code.Decode(s); e != api.ErrCode || !sameCode(c, api.Code{}) {
		t.Errorf("K3: %s: Decode(%.200x): %.200v, %v", what, s, c, e)
	}
}

// Example 1.
func TestExample(t *testing.T) {
	want := smallBytes + "\x6c\x01\xbe\x23"
	if sealed(smallBytes) != want {
		t.Fatalf("the test's own check: %x", plainCheck(smallBytes))
	}
	if s := taken(t, small()); s != want {
		t.Errorf("K2: %x, not %x", s, want)
	}
	if l, e := code.List(small()); l != "start r0 c0 corner\nkeep p0 r0\nend p0 c0 corner\n" || e != api.OK {
		t.Errorf("K4: %q, %v", l, e)
	}
}

// Example 2.
func TestExampleOfWrongs(t *testing.T) {
	for what, turn := range map[string]func(c *api.Code){
		"a table of three":       func(c *api.Code) { c.Table = c.Table[:3] },
		"Lo 1":                   func(c *api.Code) { c.Lo = 1 },
		"an Op 9":                func(c *api.Code) { c.Cell[1].Op = 9 },
		"A -1":                   func(c *api.Code) { c.Cell[1].A = -1 },
		"a constant of 2^60 + 1": func(c *api.Code) { c.Consts[0] = 1<<60 + 1 },
	} {
		c := small()
		turn(&c)
		refused(t, what, c)
	}
	s := taken(t, small())
	noCode(t, "nothing", "")
	noCode(t, "without the last byte", s[:len(s)-1])
	noCode(t, "with one more", s+"\x00")
	noCode(t, "with one more, and its check", sealed(smallBytes+"\x00"))
}

// Example 3, and numbers about it.
func TestNumbers(t *testing.T) {
	for n, want := range map[int]string{
		0: "\x00", 1: "\x02", -1: "\x01", 2: "\x04", -2: "\x03", 63: "\x7e", -63: "\x7d", 64: "\x80\x01", -64: "\x7f", 65: "\x82\x01", -65: "\x81\x01",
		8191: "\xfe\x7f", 8192: "\x80\x80\x01", -8192: "\xff\x7f", -8193: "\x81\x80\x01",
		1 << 60: "\x80\x80\x80\x80\x80\x80\x80\x80\x20", -1 << 60: "\xff\xff\xff\xff\xff\xff\xff\xff\x1f", 1<<60 - 1: "\xfe\xff\xff\xff\xff\xff\xff\xff\x1f",
	} {
		if plainNumber(n) != want {
			t.Fatalf("the test's own number: %d: %x, not %x", n, plainNumber(n), want)
		}
		c := small()
		c.Consts[0], c.Table[2] = n, n
		s := taken(t, c)
		if k := 4 + 6 + 2; s[k:k+len(want)] != want {
			t.Errorf("K2: the number %d: %x in %x", n, want, s)
		}
	}
}

// Each number of a code, at the edges of what it may be and one past them.
func TestEdges(t *testing.T) {
	const wide = 1 << 60
	for _, f := range []struct {
		what      string
		low, high int
		of        func(c *api.Code) *int
	}{
		{"Planes", 1, 10, func(c *api.Code) *int { return &c.Planes }},
		{"Regs", 1, 16, func(c *api.Code) *int { return &c.Regs }},
		{"Most", 0, 65536, func(c *api.Code) *int { return &c.Most }},
		{"Lo", -65537, 3, func(c *api.Code) *int { return &c.Lo }},
		{"Hi", -2, 65537, func(c *api.Code) *int { return &c.Hi }},
		{"the first of Table", -wide, wide, func(c *api.Code) *int { return &c.Table[0] }},
		{"the last of Table", -wide, wide, func(c *api.Code) *int { return &c.Table[3] }},
		{"the first of Consts", -wide, wide, func(c *api.Code) *int { return &c.Consts[0] }},
		{"the last of Consts", -wide, wide, func(c *api.Code) *int { return &c.Consts[1] }},
		{"the first Op", 1, 8, func(c *api.Code) *int { return &c.Cell[0].Op }},
		{"the last Op", 1, 8, func(c *api.Code) *int { return &c.Cell[2].Op }},
		{"the first A", 0, 65535, func(c *api.Code) *int { return &c.Cell[0].A }},
		{"A", 0, 65535, func(c *api.Code) *int { return &c.Cell[2].A }},
		{"B", 0, 65535, func(c *api.Code) *int { return &c.Cell[2].B }},
		{"C", 0, 65535, func(c *api.Code) *int { return &c.Cell[2].C }},
		{"the first Plane", 0, 65535, func(c *api.Code) *int { return &c.Arrows[0].Plane }},
		{"Plane", 0, 65535, func(c *api.Code) *int { return &c.Arrows[1].Plane }},
		{"Bit", 0, 65535, func(c *api.Code) *int { return &c.Arrows[1].Bit }},
		{"From", 0, 65535, func(c *api.Code) *int { return &c.Arrows[1].From }},
		{"Step", 0, 65535, func(c *api.Code) *int { return &c.Arrows[1].Step }},
	} {
		with := func(n int) api.Code {
			c := small()
			c.Lo, c.Hi, c.Consts, c.Arrows = -2, 3, []int{5, 6}, []api.Arrow{{Bit: 1}, {Step: 3}}
			*f.of(&c) = n
			return c
		}
		taken(t, with(f.low))
		taken(t, with(f.high))
		for _, n := range []int{f.low - 1, f.high + 1, -1 << 62, 1<<62 - 1, math.MinInt, math.MaxInt} {
			refused(t, f.what, with(n))
		}
	}
}

// A band of one diagonal, at either end too; and sides that are both past the end.
func TestBands(t *testing.T) {
	for _, n := range []int{-65537, -1, 0, 1, 65537} {
		c := small()
		c.Lo, c.Hi = n, n
		taken(t, c)
		c.Lo, c.Hi = n, n-1
		refused(t, "Lo above Hi", c)
	}
	c := small()
	c.Lo, c.Hi = -65537, 65537
	taken(t, c)
	c.Lo, c.Hi = 65538, 65538
	refused(t, "Lo and Hi too great", c)
	c.Lo, c.Hi = -65538, -65538
	refused(t, "Lo and Hi too small", c)
}

// Letters, with a table of just as many numbers, one less, one more.
func TestLetters(t *testing.T) {
	for n := -3; n <= 22; n++ {
		for _, off := range []int{-1, 0, 1} {
			c := small()
			c.Letters, c.Table = n, make([]int, max(n*n+off, 0))
			if n >= 2 && n <= 20 && off == 0 {
				taken(t, c)
			} else {
				refused(t, "letters", c)
			}
		}
	}
	for _, n := range []int{math.MinInt, math.MaxInt, 1 << 32, -2} {
		c := small()
		c.Letters = n // of some of them the square is small, where it wraps round
		refused(t, "letters", c)
		c.Table = nil
		refused(t, "letters", c)
	}
}

// Lists as long as may be, one longer, and empty.
func TestLengths(t *testing.T) {
	lists := []struct {
		what string
		most int
		give func(c *api.Code, n int)
	}{
		{"Consts", 100, func(c *api.Code, n int) { c.Consts = make([]int, n) }},
		{"Cell", 1000, func(c *api.Code, n int) { c.Cell = slices.Repeat([]api.Instr{{Op: api.OpTable}}, n) }},
		{"Arrows", 160, func(c *api.Code, n int) { c.Arrows = make([]api.Arrow, n) }},
	}
	full := small()
	for _, l := range lists {
		l.give(&full, l.most)
		for _, n := range []int{0, 1, 63, 64, l.most - 1, l.most, l.most + 1, 2 * l.most} {
			c := small()
			if l.give(&c, n); n <= l.most {
				taken(t, c)
			} else {
				refused(t, l.what, c)
			}
		}
	}
	taken(t, full)
}

// The greatest code, all of whose numbers are as long as may be, and the smallest one.
func TestGreatest(t *testing.T) {
	c := api.Code{Letters: 20, Planes: 10, Regs: 16, Lo: -65537, Hi: 65537, Most: 65536}
	c.Table, c.Consts = slices.Repeat([]int{1 << 60}, 400), slices.Repeat([]int{-1 << 60}, 100)
	c.Cell = slices.Repeat([]api.Instr{{Op: 8, A: 65535, B: 65535, C: 65535}}, 1000)
	c.Arrows = slices.Repeat([]api.Arrow{{Plane: 65535, Bit: 65535, From: 65535, Step: 65535}}, 160)
	if s := taken(t, c); len(s) != 4+3+9+400*9+2+100*9+2+1000*10+2+160*12+4 {
		t.Errorf("K2: %d bytes", len(s))
	}
	taken(t, api.Code{Letters: 2, Planes: 1, Regs: 1, Table: make([]int, 4)})
}

// K4's table, line by line: each where, each step, and numbers that are none.
func TestLines(t *testing.T) {
	for _, l := range []struct {
		op, a, b, c int
		line        string
	}{
		{1, 7, 8, 9, "none r7"},
		{2, 7, 8, 0, "start r7 c8 any"},
		{2, 7, 8, 1, "start r7 c8 row"},
		{2, 7, 8, 2, "start r7 c8 column"},
		{2, 7, 8, 3, "start r7 c8 corner"},
		{2, 7, 8, 4, "start r7 c8 4"},
		{2, 65535, 0, 65535, "start r65535 c0 65535"},
		{3, 7, 8, 0, "load r7 p8 here"},
		{3, 7, 8, 1, "load r7 p8 M"},
		{3, 7, 8, 2, "load r7 p8 D"},
		{3, 7, 8, 3, "load r7 p8 I"},
		{3, 7, 8, 4, "load r7 p8 4"},
		{3, 0, 65535, 65535, "load r0 p65535 65535"},
		{4, 7, 8, 9, "add r7 c8"},
		{5, 7, 8, 9, "table r7"},
		{6, 7, 8, 3, "meet r7 r8 b3"},
		{6, 10, 10, 65535, "meet r10 r10 b65535"},
		{7, 7, 8, 9, "keep p7 r8"},
		{8, 7, 8, 0, "end p7 c8 any"},
		{8, 7, 8, 1, "end p7 c8 row"},
		{8, 7, 8, 2, "end p7 c8 column"},
		{8, 7, 8, 3, "end p7 c8 corner"},
		{8, 7, 8, 4, "end p7 c8 4"},
		{8, 7, 8, 100, "end p7 c8 100"},
	} {
		c := small()
		c.Cell = []api.Instr{{Op: l.op, A: l.a, B: l.b, C: l.c}}
		taken(t, c)
		if got, e := code.List(c); got != l.line+"\n" || e != api.OK {
			t.Errorf("K4: %+v: %q, %v, not %q", c.Cell, got, e, l.line)
		}
	}
	c := small()
	c.Cell = nil
	if got, e := code.List(c); got != "" || e != api.OK {
		t.Errorf("K4: no instruction: %q, %v", got, e)
	}
}

// Numbers that are written otherwise than in as few bytes as may be, each with a right check.
func TestLongNumbers(t *testing.T) {
	body := smallBytes[4:]
	for k := range len(body) {
		for _, noughts := range []string{"\x00", "\x80\x00", "\x80\x80\x80\x80\x80\x80\x80\x00", "\x80\x80\x80\x80\x80\x80\x80\x80\x00", strings.Repeat("\x80", 30) + "\x00"} {
			noCode(t, "noughts ahead", sealed("HLX1"+body[:k]+string([]byte{body[k] + 128})+noughts+body[k+1:]))
		}
		// Digits past 64 bits, which a number that wraps round leaves out.
		for _, far := range []string{"\x80\x80\x80\x80\x80\x80\x80\x80\x02", "\x80\x80\x80\x80\x80\x80\x80\x80\x80\x01"} {
			noCode(t, "far digits", sealed("HLX1"+body[:k]+string([]byte{body[k] + 128})+far+body[k+1:]))
		}
	}
	for _, s := range []string{"\x80", "\xff\xff\xff\xff\xff\xff\xff\xff\xff", strings.Repeat("\x80", 100)} {
		noCode(t, "a number without end", sealed("HLX1"+s))
	}
}

// How many there are, said wrongly: more than stand there, fewer, below 0, great.
func TestCounts(t *testing.T) {
	head, table := numbersAsBytes(2, 1, 1, 0, 0, 5), numbersAsBytes(1, -1, -1, 1)
	for _, n := range []int{-1, 0, 2, 100, 101, 1 << 31, 1 << 60, -1 << 60, math.MaxInt, math.MinInt} {
		count := numbersAsBytes(n)
		noCode(t, "Consts", sealed("HLX1"+head+table+count+numbersAsBytes(7, 0, 0)))
		noCode(t, "Cell", sealed("HLX1"+head+table+numbersAsBytes(0)+count+numbersAsBytes(5, 0, 0, 0, 0)))
		noCode(t, "Arrows", sealed("HLX1"+head+table+numbersAsBytes(0, 0)+count+numbersAsBytes(5, 0, 0, 0)))
		if n != 2 {
			noCode(t, "Letters", sealed("HLX1"+numbersAsBytes(n, 1, 1, 0, 0, 5)+table+numbersAsBytes(0, 0, 0)))
		}
	}
	right := sealed("HLX1" + head + table + numbersAsBytes(1, 7, 1, 5, 0, 0, 0, 1, 5, 0, 0, 0))
	if c, e := code.Decode(right); e != api.OK || len(c.Consts) != 1 || len(c.Cell) != 1 || len(c.Arrows) != 1 {
		t.Errorf("K3: %+v, %v", c, e)
	}
}

// Another mark, or a part of it, or the check in another order.
func TestMarkAndCheck(t *testing.T) {
	body := smallBytes[4:]
	for _, mark := range []string{"", "H", "HLX", "HLX2", "hlx1", "HLX1H", "HLX1HLX1", "\x00\x00\x00\x00", "HLX\x31\x00", " HLX1"} {
		noCode(t, "the mark "+mark, sealed(mark+body))
	}
	sum := plainCheck(smallBytes)
	for _, s := range []string{
		"", sum[:3], sum[1:], sum[2:] + sum[:2], sum[1:2] + sum[:1] + sum[3:] + sum[2:3], plainCheck(body), "\x00\x00\x00\x00", "\x01\x00\x00\x00", sum + sum, plainCheck(smallBytes + sum),
	} {
		noCode(t, "the check", smallBytes+s)
	}
	for _, s := range []string{"H", "HLX1", sealed(""), sealed("HLX1"), "\x01\x00\x00\x00", sealed("HLX"), sealed("HLX1\x04")} {
		noCode(t, "short bytes", s)
	}
	noCode(t, "twice a code", sealed(smallBytes)+sealed(smallBytes))
	noCode(t, "many bytes", sealed(smallBytes)+strings.Repeat("\x00", 1<<20))
}

// Codes whose sums go past 65521, so that the check's modulus is seen, and not one of 65520 or 65536.
func TestCheckOfLong(t *testing.T) {
	for n := range 100 {
		c := small()
		c.Consts = slices.Repeat([]int{-1 << 60}, n)
		c.Cell = slices.Repeat([]api.Instr{{Op: 8, A: 65535, B: 65534, C: 65533}}, 10*n)
		taken(t, c)
	}
}
