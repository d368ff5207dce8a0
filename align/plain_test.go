package align_test

import (
	"math/rand/v2"
	"slices"
	"strconv"
	"strings"

	"helix/api"
	"helix/bound"
	"helix/check"
	"helix/code"
	"helix/gen"
	"helix/machine"
	"helix/passes"
	"helix/pretty"
	"helix/recur"
	"helix/syntax"
	"helix/trace"
	"helix/verify"
)

// A plain reading of P20.1 to P20.3, with which the package is held: the layers below, one behind the other.

func plainCompile(source string) (api.Built, api.Fault) {
	tree, f := syntax.Parse(source)
	if f != (api.Fault{}) {
		return api.Built{}, f
	}
	s, f := check.Check(tree)
	if f != (api.Fault{}) {
		return api.Built{}, f
	}
	m, _ := check.Numbers(s)
	most, _ := bound.Most(m)
	r, _ := recur.Lower(s)
	r, _ = passes.All(r)
	c, _ := gen.Generate(r, most)
	text, _ := code.Encode(c)
	return api.Built{Letters: s.Letters, Most: most, Least: m.Least, Code: text}, api.Fault{}
}

func plainFormat(source string) (string, api.Fault) {
	tree, f := syntax.Parse(source)
	if f != (api.Fault{}) {
		return "", f
	}
	text, e := pretty.Print(tree)
	if e == api.ErrLong {
		return "", api.Fault{Code: e}
	}
	return text, api.Fault{}
}

func plainAlign(b api.Built, x, y string) (api.Found, api.Errno) {
	c, decoded := code.Decode(b.Code)
	_, checked := verify.Check(c)
	rows, columns := plainNumbers(b.Letters, x), plainNumbers(b.Letters, y)
	switch {
	case !plainAlphabet(b.Letters):
		return api.Found{}, api.ErrArg
	case decoded != api.OK:
		return api.Found{}, decoded
	case checked != api.OK:
		return api.Found{}, checked
	case c.Letters != len(b.Letters):
		return api.Found{}, api.ErrArg
	case len(x) > c.Most || len(y) > c.Most:
		return api.Found{}, api.ErrTooLong
	case slices.Contains(rows, -1) || slices.Contains(columns, -1):
		return api.Found{}, api.ErrSymbol
	}
	table, e := machine.Run(c, rows, columns)
	if e != api.OK {
		return api.Found{}, e
	}
	return trace.Walk(table)
}

func plainAlphabet(s string) bool {
	for i, c := range []byte(s) {
		if c < 'A' || c > 'Z' || strings.Count(s, string(c)) > 1 || i > 19 {
			return false
		}
	}
	return len(s) > 1
}

// plainNumbers are those of a text's letters, -1 of what is none.
func plainNumbers(letters, text string) []int {
	var l []int
	for i := range len(text) {
		l = append(l, strings.IndexByte(letters, strings.ToUpper(text[i : i+1])[0]))
	}
	return l
}

// plainGreatest is the greatest score of all legal paths, and whether there is one, for sequences of any length: of each cell the best path up to it by its last run, each gap being tried with each of its lengths.
func plainGreatest(m api.Model, x, y []int) (int, bool) {
	const runs = 4 // a beginning, an M, a gap of D, one of I
	type best struct {
		score int
		is    bool
	}
	table := make([][][runs]best, len(x)+1)
	better := func(b *best, score int) {
		if !b.is || score > b.score {
			*b = best{score, true}
		}
	}
	inBand := func(i, j int) bool { return !m.Banded || m.Lo <= j-i && j-i <= m.Hi }
	var greatest best
	for i := range len(x) + 1 {
		table[i] = make([][runs]best, len(y)+1)
		for j := range len(y) + 1 {
			if !inBand(i, j) {
				continue
			}
			here := &table[i][j]
			if begins(m.Mode, i, j) {
				better(&here[0], -left(m.Front, j > 0))
			}
			if i > 0 && j > 0 {
				for _, b := range table[i-1][j-1] {
					if b.is {
						better(&here[1], b.score+m.Subst[m.Letters*x[i-1]+y[j-1]])
					}
				}
			}
			for k := 1; len(m.Gaps) > 0 && k <= i && inBand(i-k, j); k++ {
				for _, from := range []int{0, 1, 3} {
					if b := table[i-k][j][from]; b.is {
						better(&here[2], b.score-gap(m, k))
					}
				}
			}
			for k := 1; len(m.Gaps) > 0 && k <= j && inBand(i, j-k); k++ {
				for _, from := range []int{0, 1, 2} {
					if b := table[i][j-k][from]; b.is {
						better(&here[3], b.score-gap(m, k))
					}
				}
			}
			for _, b := range here {
				if b.is && ends(m.Mode, i, j, len(x), len(y)) {
					better(&greatest, b.score-left(m.Back, j < len(y)))
				}
			}
		}
	}
	return greatest.score, greatest.is
}

func left(cost int, so bool) int {
	if so {
		return cost
	}
	return 0
}

func gap(m api.Model, k int) int {
	var costs []int
	for _, g := range m.Gaps {
		costs = append(costs, g.Open+g.Extend*k)
	}
	return slices.Min(costs)
}

func begins(mode, i, j int) bool {
	return mode == api.Local || j == 0 && (mode == api.Fit || i == 0)
}

func ends(mode, i, j, rows, columns int) bool {
	return mode == api.Local || mode == api.Extend || j == columns && (mode == api.Fit || i == rows)
}

// maker makes sources, sequences and codes of many shapes, by numbers that are the same each time.
type maker struct{ *rand.Rand }

func newMaker(seed uint64) maker { return maker{rand.New(rand.NewPCG(seed, 20))} }

func (m maker) oneOf(l ...string) string { return l[m.IntN(len(l))] }

// size is how great numbers are: mostly so small that many paths are worth as much.
func (m maker) size() int { return []int{0, 1, 1, 2, 3, 9, 1 << 20, 1 << 40, 1 << 56}[m.IntN(9)] }

// letters are an alphabet.
func (m maker) letters() string {
	all := []byte("ACGTNQWERY")
	m.Shuffle(len(all), func(a, b int) { all[a], all[b] = all[b], all[a] })
	return string(all[:2+m.IntN(3)])
}

// text is one of an alphabet's letters, great and small.
func (m maker) text(letters string, n int) string {
	var b strings.Builder
	for range n {
		c := m.oneOf(strings.Split(letters, "")...)
		if m.IntN(4) == 0 {
			c = strings.ToLower(c)
		}
		b.WriteString(c)
	}
	return b.String()
}

// number is one up to a size, on either side of 0.
func (m maker) number(size int) int { return m.IntN(2*size+1) - size }

// says is an expression of a number, put in one of many ways; no number in it is greater than may be.
func (m maker) says(n, deep int) string {
	k := m.IntN(9)
	switch {
	case n < 0:
		return "-" + m.bracket(m.says(-n, deep))
	case deep == 0 || n > 1<<50:
		return strconv.Itoa(n)
	}
	switch m.IntN(9) {
	case 0:
		return m.says(n+k, deep-1) + m.blank() + "-" + m.bracket(m.says(k, deep-1))
	case 1:
		return m.says(n-k, deep-1) + m.blank() + "+" + m.says(k, deep-1)
	case 2:
		return m.says(n, deep-1) + "*" + m.bracket(m.says(1, deep-1))
	case 3:
		return "min(" + m.says(n+k, deep-1) + "," + m.says(n, deep-1) + m.blank() + "," + m.says(n+2*k, deep-1) + ")"
	case 4:
		return "max(" + m.says(n, deep-1) + m.blank() + "," + m.says(n-k, deep-1) + ")"
	case 5:
		return "(" + m.says(n, deep-1) + ")"
	}
	return strconv.Itoa(n)
}

// bracket puts brackets about an expression, needed or not.
func (m maker) bracket(s string) string { return "(" + m.blank() + s + ")" }

// blank is what may stand between tokens.
func (m maker) blank() string { return m.oneOf("", "", "", " ", " ", "  ", "\n", "\t ", " # c;\n") }

// source is one that has a meaning, with its letters and its model; of numbers up to a size.
func (m maker) source(size int) (string, string, api.Model) {
	w := writer{maker: m, size: size, letters: m.letters()}
	n := len(w.letters)
	w.model = api.Model{Letters: n, Mode: 1 + m.IntN(4), Subst: make([]int, n*n)}
	for k := range m.IntN(3) {
		w.lets = append(w.lets, m.number(size))
		w.items = append(w.items, "let v"+strconv.Itoa(k)+"="+m.says(w.lets[k], 2))
	}
	w.items = append(w.items, `alphabet`+m.blank()+`"`+w.letters+`"`)
	w.scores()
	w.rest()
	// All but the lets may stand in any order, and a pair behind the alphabet.
	first := len(w.lets) + 1
	m.Shuffle(len(w.items)-first, func(a, b int) {
		w.items[first+a], w.items[first+b] = w.items[first+b], w.items[first+a]
	})
	var b strings.Builder
	for _, i := range append(w.items, w.gaps...) {
		b.WriteString(m.blank() + i + m.blank() + ";")
	}
	return b.String() + m.blank(), w.letters, w.model
}

// writer writes a source, and keeps its model beside it.
type writer struct {
	maker
	size    int
	letters string
	model   api.Model
	lets    []int
	// items may change places, gaps stand in the model's order.
	items, gaps []string
}

// value is a number and how it is written: now and then as one of the lets.
func (w *writer) value(low int) (int, string) {
	if len(w.lets) > 0 && w.IntN(3) == 0 {
		k := w.IntN(len(w.lets))
		if w.lets[k] >= low {
			return w.lets[k], "v" + strconv.Itoa(k)
		}
	}
	n := max(low, w.number(w.size))
	return n, w.says(n, 2)
}

// scores lays down match and mismatch, and some pairs; or a pair for each two letters, without these.
func (w *writer) scores() {
	match, how := w.value(-w.size)
	other, what := w.value(-w.size)
	all := w.IntN(4) == 0
	if !all {
		w.items = append(w.items, "match "+how, "mismatch "+what)
	}
	for a := range w.letters {
		for b := range w.letters {
			at := a*len(w.letters) + b
			w.model.Subst[at] = other
			if a == b {
				w.model.Subst[at] = match
			}
			if all || w.IntN(6) == 0 {
				n, says := w.value(-w.size)
				w.model.Subst[at] = n
				w.items = append(w.items, `pair "`+w.letters[a:a+1]+w.letters[b:b+1]+`",`+says)
			}
		}
	}
}

// rest lays down what else there may be.
func (w *writer) rest() {
	w.items = append(w.items, "mode "+[]string{"global", "fit", "local", "extend"}[w.model.Mode-1])
	for range w.IntN(5) {
		open, how := w.value(0)
		extend, what := w.value(0)
		w.model.Gaps = append(w.model.Gaps, api.Gap{Open: open, Extend: extend})
		w.gaps = append(w.gaps, "gap "+how+","+what)
	}
	if w.IntN(3) == 0 {
		lo := w.IntN(7) - 4
		hi := lo + w.IntN(7)
		w.model.Banded, w.model.Lo, w.model.Hi = true, lo, hi
		w.items = append(w.items, "band "+w.says(lo, 1)+" .. "+w.says(hi, 1))
	}
	if w.IntN(2) == 0 {
		front, how := w.value(0)
		back, what := w.value(0)
		w.model.Front, w.model.Back = front, back
		w.items = append(w.items, "clip "+how+","+what)
	}
	if w.IntN(2) == 0 {
		least, how := w.value(-w.size)
		w.model.Least = least
		w.items = append(w.items, "least "+how)
	}
}

// broken is a source with some of its items, or of its bytes, changed.
func (m maker) broken(source string) string {
	change := m.brokenBytes
	if m.IntN(2) == 0 {
		change = m.brokenItems
	}
	for range 1 + m.IntN(2) {
		source = change(source)
	}
	return source
}

func (m maker) brokenItems(source string) string {
	l := strings.Split(source, ";")
	at := m.IntN(len(l))
	switch m.IntN(4) {
	case 0:
		l = slices.Delete(l, at, at+1)
	case 1:
		l = slices.Insert(l, at, l[m.IntN(len(l))])
	case 2:
		l = slices.Insert(l, at, m.oneOf("let v0 = 1", "gap 1, 1", "pair \"AC\", 1", "pair 1, 1", "pair \"A\", 1", "mode fit", "least 72057594037927936 + 1", "gap 1, -1", "match \"A\"", "match none", "clip 0, a"))
	case 3:
		other := m.IntN(len(l))
		l[at], l[other] = l[other], l[at]
	}
	return strings.Join(l, ";")
}

func (m maker) brokenBytes(source string) string {
	if source == "" {
		return "!"
	}
	at := m.IntN(len(source))
	switch m.IntN(4) {
	case 0:
		return source[:at] + source[min(len(source), at+1+m.IntN(4)):]
	case 1:
		return source[:at] + m.oneOf("match", "1", "\"AC\"", "v0", ";", "-", "(", ")", "07", "!") + source[at:]
	case 2:
		return source[:at] + m.oneOf(strings.Split("; ,=+-*()\"0a.Z!", "")...) + source[at+1:]
	}
	return source[:at] + source[m.IntN(len(source)):]
}
