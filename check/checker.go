package check

import (
	"slices"

	"helix/alpha"
	"helix/api"
)

// none is the place of what has not been said.
const none = -1

// checker goes through items, and puts the scheme together.
type checker struct {
	scheme api.Scheme
	// values are the numbers of the scheme's definitions.
	values []int
	names  map[string]meaning
	// had tells which kinds of items have been.
	had [api.ItemLeast + 1]bool
	// at is the place of the item that has come last.
	at              int
	match, mismatch int
}

func newChecker() *checker {
	return &checker{names: map[string]meaning{}, match: none, mismatch: none}
}

// take goes on by an item.
func (c *checker) take(i api.Item) api.Fault {
	c.at = i.At
	if c.twice(i) {
		return c.wrong(api.ErrTwice)
	}
	c.had[i.Kind] = true
	switch i.Kind {
	case api.ItemLet:
		return c.let(i.Name, i.Args[0])
	case api.ItemAlphabet:
		return c.alphabet(i.Args[0])
	case api.ItemPair:
		return c.pair(i.Args[0], i.Args[1])
	case api.ItemGap:
		return c.gap(i.Args[0], i.Args[1])
	case api.ItemMode:
		c.scheme.Mode = modeOf(i.Name)
	case api.ItemBand:
		return c.band(i.Args[0], i.Args[1])
	case api.ItemClip:
		return c.clip(i.Args[0], i.Args[1])
	case api.ItemMatch:
		return c.single(i.Args[0], &c.match)
	case api.ItemMismatch:
		return c.single(i.Args[0], &c.mismatch)
	case api.ItemLeast:
		return c.single(i.Args[0], &c.scheme.Least)
	}
	return api.Fault{}
}

// wrong is a fault of the item that has come last.
func (c *checker) wrong(code api.Errno) api.Fault { return api.Fault{Code: code, At: c.at} }

// twice tells whether an item says again what may be said but once.
func (c *checker) twice(i api.Item) bool {
	switch i.Kind {
	case api.ItemLet:
		_, ok := c.names[i.Name]
		return ok
	case api.ItemPair, api.ItemGap:
		return false
	}
	return c.had[i.Kind]
}

func (c *checker) let(name string, e api.Expr) api.Fault {
	m, f := c.expr(e)
	if f.Code == api.OK {
		c.names[name] = m
	}
	return f
}

func (c *checker) alphabet(e api.Expr) api.Fault {
	m, f := c.asked(e, textOf(alpha.Right))
	if f.Code != api.OK {
		return f
	}
	n := len(m.text)
	c.scheme.Letters = m.text
	c.scheme.Subst = slices.Repeat([]int{none}, n*n)
	return api.Fault{}
}

// single is an item of one number, whose place is set down.
func (c *checker) single(e api.Expr, place *int) api.Fault {
	m, f := c.asked(e, numberFrom(-api.MaxConst))
	if f.Code == api.OK {
		*place = m.place
	}
	return f
}

func (c *checker) pair(letters, score api.Expr) api.Fault {
	if !c.had[api.ItemAlphabet] {
		return c.wrong(api.ErrMissing)
	}
	m, f := c.asked(letters, textOf(func(s string) bool {
		return len(s) == 2 && c.code(s[0]) >= 0 && c.code(s[1]) >= 0
	}))
	if f.Code != api.OK {
		return f
	}
	place := &c.scheme.Subst[c.code(m.text[0])*len(c.scheme.Letters)+c.code(m.text[1])]
	if *place != none {
		return c.wrong(api.ErrTwice)
	}
	return c.single(score, place)
}

// code is the number of a letter, below 0 for what is none.
func (c *checker) code(letter byte) int { return alpha.Code(c.scheme.Letters, letter) }

func (c *checker) gap(open, extend api.Expr) api.Fault {
	if len(c.scheme.Pieces) == api.MaxPieces {
		return c.wrong(api.ErrMany)
	}
	a, b, f := c.costs(open, extend)
	if f.Code == api.OK {
		c.scheme.Pieces = append(c.scheme.Pieces, api.Piece{Open: a, Extend: b})
	}
	return f
}

func (c *checker) clip(front, back api.Expr) api.Fault {
	a, b, f := c.costs(front, back)
	if f.Code == api.OK {
		c.scheme.Front, c.scheme.Back = a, b
	}
	return f
}

// costs tells the places of two numbers, neither of which may be below 0.
func (c *checker) costs(a, b api.Expr) (int, int, api.Fault) {
	first, f := c.asked(a, numberFrom(0))
	if f.Code != api.OK {
		return 0, 0, f
	}
	second, f := c.asked(b, numberFrom(0))
	return first.place, second.place, f
}

func (c *checker) band(lo, hi api.Expr) api.Fault {
	first, f := c.asked(lo, numberFrom(-api.MaxConst))
	if f.Code != api.OK {
		return f
	}
	second, f := c.asked(hi, numberFrom(first.number))
	if f.Code == api.OK {
		c.scheme.Banded, c.scheme.Lo, c.scheme.Hi = true, first.place, second.place
	}
	return f
}

// modeOf is the mode of a way.
func modeOf(way string) int {
	switch way {
	case "global":
		return api.Global
	case "fit":
		return api.Fit
	case "local":
		return api.Local
	}
	return api.Extend
}

// end fills in what no item has said.
func (c *checker) end() api.Fault {
	if !c.had[api.ItemAlphabet] || !c.had[api.ItemMode] || !c.score() {
		return c.wrong(api.ErrMissing)
	}
	if !c.had[api.ItemClip] {
		m, f := c.lay(api.Def{Op: api.DefNum}, c.at)
		if f.Code != api.OK {
			return f
		}
		c.scheme.Front, c.scheme.Back = m.place, m.place
	}
	if !c.had[api.ItemLeast] {
		m, f := c.lay(api.Def{Op: api.DefNum}, c.at)
		c.scheme.Least = m.place
		return f
	}
	return api.Fault{}
}

// score gives the letters that no pair names the place of match, or of mismatch; it tells whether all have one then.
func (c *checker) score() bool {
	n := len(c.scheme.Letters)
	for at, place := range c.scheme.Subst {
		if place != none {
			continue
		}
		if at/n == at%n {
			c.scheme.Subst[at] = c.match
		} else {
			c.scheme.Subst[at] = c.mismatch
		}
	}
	return !slices.Contains(c.scheme.Subst, none)
}
