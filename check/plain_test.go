package check_test

import (
	"math/big"
	"slices"
	"strings"

	"helix/api"
)

// A plain reading of the chapter, with which the package is held: it knows neither the package nor those that it stands on, looks through all items ahead for each thing, and has numbers of any size.

var (
	bigConst = new(big.Int).Lsh(big.NewInt(1), 56)
	bigValue = new(big.Int).Lsh(big.NewInt(1), 57)
)

// said is what an expression is: a text, or a number and its place.
type said struct {
	text   *string
	number *big.Int
	place  int
}

// reader has the items ahead, what each of their expressions is, and what has been laid down.
type reader struct {
	items   []api.Item
	says    [][]said
	defs    []api.Def
	numbers []*big.Int
	at      int
}

// plain says what a right tree means, or what is wrong with it.
func plain(t api.Tree) (s api.Scheme, f api.Fault) {
	var r reader
	defer func() {
		if x := recover(); x != nil {
			s, f = api.Scheme{}, x.(api.Fault)
		}
	}()
	for _, i := range t.Items {
		r.at = i.At
		r.says = append(r.says, r.item(i))
		r.items = append(r.items, i)
	}
	return r.scheme(), api.Fault{}
}

// refuse gives up, if what is told is so.
func refuse(so bool, code api.Errno, at int) {
	if so {
		panic(api.Fault{Code: code, At: at})
	}
}

// all are what the items ahead of a kind say.
func (r *reader) all(kind int) [][]said {
	var l [][]said
	for n, i := range r.items {
		if i.Kind == kind {
			l = append(l, r.says[n])
		}
	}
	return l
}

// called tells which let ahead has that name; -1 if none has.
func (r *reader) called(name string) int {
	return slices.IndexFunc(r.items, func(i api.Item) bool { return i.Kind == api.ItemLet && i.Name == name })
}

func (r *reader) item(i api.Item) []said {
	switch i.Kind {
	case api.ItemLet:
		refuse(r.called(i.Name) >= 0, api.ErrTwice, i.At)
		return []said{r.expr(i.Args[0])}
	case api.ItemPair:
		return r.pair(i)
	case api.ItemGap:
		refuse(len(r.all(api.ItemGap)) == 4, api.ErrMany, i.At)
	default:
		refuse(len(r.all(i.Kind)) > 0, api.ErrTwice, i.At)
	}
	var l []said
	for n, e := range i.Args {
		s := r.expr(e)
		switch i.Kind {
		case api.ItemAlphabet:
			refuse(s.text == nil, api.ErrType, e.At)
			refuse(!plainAlphabet(*s.text), api.ErrAlphabet, e.At)
		case api.ItemGap, api.ItemClip:
			refuse(s.text != nil, api.ErrType, e.At)
			refuse(s.number.Sign() < 0, api.ErrRange, e.At)
		default:
			refuse(s.text != nil, api.ErrType, e.At)
			refuse(n == 1 && s.number.Cmp(l[0].number) < 0, api.ErrRange, e.At)
		}
		l = append(l, s)
	}
	return l
}

func (r *reader) pair(i api.Item) []said {
	letters := r.all(api.ItemAlphabet)
	refuse(len(letters) == 0, api.ErrMissing, i.At)
	first := r.expr(i.Args[0])
	refuse(first.text == nil, api.ErrType, i.Args[0].At)
	two := strings.ToUpper(*first.text)
	refuse(len(two) != 2 || strings.Trim(two, *letters[0][0].text) != "", api.ErrAlphabet, i.Args[0].At)
	for _, p := range r.all(api.ItemPair) {
		refuse(strings.EqualFold(*p[0].text, two), api.ErrTwice, i.At)
	}
	second := r.expr(i.Args[1])
	refuse(second.text != nil, api.ErrType, i.Args[1].At)
	return []said{first, second}
}

func plainAlphabet(s string) bool {
	if len(s) < 2 || len(s) > 20 {
		return false
	}
	for n, c := range []byte(s) {
		if c < 'A' || c > 'Z' || slices.Contains([]byte(s)[:n], c) {
			return false
		}
	}
	return true
}

func (r *reader) expr(e api.Expr) said {
	var kids []said
	for _, k := range e.Kids {
		kids = append(kids, r.expr(k))
	}
	for n, k := range kids {
		refuse(k.text != nil, api.ErrType, e.Kids[n].At)
	}
	switch e.Kind {
	case api.ExprText:
		return said{text: &e.Text}
	case api.ExprName:
		n := r.called(e.Text)
		refuse(n < 0, api.ErrNone, e.At)
		return r.says[n][0]
	case api.ExprNum:
		return r.lay(api.Def{Op: 1, Num: e.Num}, e.At)
	case api.ExprNeg:
		return r.lay(api.Def{Op: 2, A: kids[0].place}, e.At)
	}
	for len(kids) > 1 {
		both := api.Def{Op: e.Kind - 2, A: kids[0].place, B: kids[1].place}
		kids = append([]said{r.lay(both, e.At)}, kids[2:]...)
	}
	return kids[0]
}

func (r *reader) lay(d api.Def, at int) said {
	v := plainWorth(d, r.numbers)
	refuse(v.CmpAbs(bigConst) > 0, api.ErrRange, at)
	refuse(len(r.defs) == 5000, api.ErrMany, r.at)
	r.defs = append(r.defs, d)
	r.numbers = append(r.numbers, v)
	return said{number: v, place: len(r.defs) - 1}
}

// plainWorth is the number of a definition by those ahead of it.
func plainWorth(d api.Def, l []*big.Int) *big.Int {
	v := new(big.Int)
	switch d.Op {
	case 1:
		return v.SetInt64(int64(d.Num))
	case 2:
		return v.Neg(l[d.A])
	case 3:
		return v.Add(l[d.A], l[d.B])
	case 4:
		return v.Sub(l[d.A], l[d.B])
	case 5:
		return v.Mul(l[d.A], l[d.B])
	}
	if less := l[d.A].Cmp(l[d.B]) < 0; less == (d.Op == 6) {
		return v.Set(l[d.A])
	}
	return v.Set(l[d.B])
}

func (r *reader) scheme() api.Scheme {
	letters, mode := r.all(api.ItemAlphabet), slices.IndexFunc(r.items, func(i api.Item) bool { return i.Kind == api.ItemMode })
	refuse(len(letters) == 0 || mode < 0, api.ErrMissing, r.at)
	s := api.Scheme{Letters: *letters[0][0].text, Mode: 1 + slices.Index([]string{"global", "fit", "local", "extend"}, r.items[mode].Name)}
	for _, a := range s.Letters {
		for _, b := range s.Letters {
			s.Subst = append(s.Subst, r.over(string(a), string(b)))
		}
	}
	for _, g := range r.all(api.ItemGap) {
		s.Pieces = append(s.Pieces, api.Piece{Open: g[0].place, Extend: g[1].place})
	}
	for _, b := range r.all(api.ItemBand) {
		s.Banded, s.Lo, s.Hi = true, b[0].place, b[1].place
	}
	clip, least := r.all(api.ItemClip), r.all(api.ItemLeast)
	if clip == nil {
		zero := r.lay(api.Def{Op: 1}, 0)
		clip = [][]said{{zero, zero}}
	}
	if least == nil {
		least = [][]said{{r.lay(api.Def{Op: 1}, 0)}}
	}
	s.Front, s.Back, s.Least = clip[0][0].place, clip[0][1].place, least[0][0].place
	s.Defs = r.defs
	return s
}

// over is the place of the score of two letters.
func (r *reader) over(a, b string) int {
	for _, p := range r.all(api.ItemPair) {
		if strings.ToUpper(*p[0].text) == a+b {
			return p[1].place
		}
	}
	kind := api.ItemMismatch
	if a == b {
		kind = api.ItemMatch
	}
	l := r.all(kind)
	refuse(len(l) == 0, api.ErrMissing, r.at)
	return l[0][0].place
}

// plainValues are the numbers of definitions, or the error.
func plainValues(l []api.Def) ([]*big.Int, api.Errno) {
	if len(l) > 5004 {
		return nil, api.ErrLong
	}
	var v []*big.Int
	for n, d := range l {
		has := map[int][3]bool{1: {true, false, false}, 2: {false, true, false}, 3: {false, true, true}, 4: {false, true, true}, 5: {false, true, true}, 6: {false, true, true}, 7: {false, true, true}}
		h, ok := has[d.Op]
		if !ok || !h[0] && d.Num != 0 {
			return nil, api.ErrArg
		}
		for k, p := range []int{d.A, d.B} {
			if h[k+1] && (p < 0 || p >= n) || !h[k+1] && p != 0 {
				return nil, api.ErrArg
			}
		}
		x := plainWorth(d, v)
		if x.CmpAbs(bigValue) > 0 {
			return nil, api.ErrRange
		}
		v = append(v, x)
	}
	return v, api.OK
}

// plainRight says whether a scheme is right.
func plainRight(s api.Scheme) bool {
	v, e := plainValues(s.Defs)
	if e != api.OK || len(s.Defs) > 5000 || !plainAlphabet(s.Letters) || len(s.Subst) != len(s.Letters)*len(s.Letters) {
		return false
	}
	if len(s.Pieces) > 4 || !slices.Contains([]int{1, 2, 3, 4}, s.Mode) {
		return false
	}
	costs := []int{s.Front, s.Back}
	for _, p := range s.Pieces {
		costs = append(costs, p.Open, p.Extend)
	}
	scores := append(slices.Clone(s.Subst), s.Least)
	if s.Banded {
		scores = append(scores, s.Lo, s.Hi)
	} else if s.Lo != 0 || s.Hi != 0 {
		return false
	}
	for n, p := range append(slices.Clone(costs), scores...) {
		if p < 0 || p >= len(v) || v[p].CmpAbs(bigConst) > 0 || n < len(costs) && v[p].Sign() < 0 {
			return false
		}
	}
	return !s.Banded || v[s.Lo].Cmp(v[s.Hi]) <= 0
}

// plainNumbers are those of a right scheme.
func plainNumbers(s api.Scheme) api.Model {
	v, _ := plainValues(s.Defs)
	at := func(p int) int { return int(v[p].Int64()) }
	m := api.Model{Letters: len(s.Letters), Mode: s.Mode, Banded: s.Banded, Front: at(s.Front), Back: at(s.Back), Least: at(s.Least)}
	for _, p := range s.Subst {
		m.Subst = append(m.Subst, at(p))
	}
	for _, p := range s.Pieces {
		m.Gaps = append(m.Gaps, api.Gap{Open: at(p.Open), Extend: at(p.Extend)})
	}
	if s.Banded {
		m.Lo, m.Hi = at(s.Lo), at(s.Hi)
	}
	return m
}
