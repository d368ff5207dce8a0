package check

import "helix/api"

// meaning is what an expression is: a text, or a number, which has a place among the definitions.
type meaning struct {
	isText        bool
	text          string
	place, number int
}

// ask tells what is wrong with a meaning where it stands.
type ask func(m meaning) api.Errno

// numberFrom asks for a number that is not below the least one.
func numberFrom(least int) ask {
	return func(m meaning) api.Errno {
		switch {
		case m.isText:
			return api.ErrType
		case m.number < least:
			return api.ErrRange
		}
		return api.OK
	}
}

// textOf asks for a text of letters that are right there.
func textOf(right func(s string) bool) ask {
	return func(m meaning) api.Errno {
		switch {
		case !m.isText:
			return api.ErrType
		case !right(m.text):
			return api.ErrAlphabet
		}
		return api.OK
	}
}

// asked tells what an item's expression means, if that is what is asked for there.
func (c *checker) asked(e api.Expr, a ask) (meaning, api.Fault) {
	m, f := c.expr(e)
	if f.Code != api.OK {
		return meaning{}, f
	}
	if code := a(m); code != api.OK {
		return meaning{}, api.Fault{Code: code, At: e.At}
	}
	return m, api.Fault{}
}

func (c *checker) expr(e api.Expr) (meaning, api.Fault) {
	switch e.Kind {
	case api.ExprNum:
		return c.lay(api.Def{Op: api.DefNum, Num: e.Num}, e.At)
	case api.ExprText:
		return meaning{isText: true, text: e.Text}, api.Fault{}
	case api.ExprName:
		m, ok := c.names[e.Text]
		if !ok {
			return meaning{}, api.Fault{Code: api.ErrNone, At: e.At}
		}
		return m, api.Fault{}
	}
	return c.compound(e)
}

// compound is an expression of others, which are numbers.
func (c *checker) compound(e api.Expr) (meaning, api.Fault) {
	kids, f := c.kids(e.Kids)
	if f.Code != api.OK {
		return meaning{}, f
	}
	m := kids[0]
	if e.Kind == api.ExprNeg {
		return c.lay(api.Def{Op: api.DefNeg, A: m.place}, e.At)
	}
	for _, k := range kids[1:] {
		m, f = c.lay(api.Def{Op: defOp(e.Kind), A: m.place, B: k.place}, e.At)
		if f.Code != api.OK {
			return meaning{}, f
		}
	}
	return m, api.Fault{}
}

// kids asks all Kids ahead of their types: what is wrong within one of them comes first, though a text stand ahead of it.
func (c *checker) kids(l []api.Expr) ([]meaning, api.Fault) {
	kids := make([]meaning, 0, len(l))
	for _, e := range l {
		m, f := c.expr(e)
		if f.Code != api.OK {
			return nil, f
		}
		kids = append(kids, m)
	}
	for n, m := range kids {
		if m.isText {
			return nil, api.Fault{Code: api.ErrType, At: l[n].At}
		}
	}
	return kids, api.Fault{}
}

// defOp is the Op of a kind of expression that has two Kids or more.
func defOp(kind int) int {
	switch kind {
	case api.ExprAdd:
		return api.DefAdd
	case api.ExprSub:
		return api.DefSub
	case api.ExprMul:
		return api.DefMul
	case api.ExprMin:
		return api.DefMin
	}
	return api.DefMax
}

// lay lays a definition down, and tells its place and number. What is wrong with the number stands ahead of there being no room for it.
func (c *checker) lay(d api.Def, at int) (meaning, api.Fault) {
	v, ok := worth(d, c.values)
	if !ok || !within(v, api.MaxConst) {
		return meaning{}, api.Fault{Code: api.ErrRange, At: at}
	}
	place := len(c.values)
	if place == api.MaxDefs {
		return meaning{}, api.Fault{Code: api.ErrMany, At: c.at}
	}
	c.scheme.Defs = append(c.scheme.Defs, d)
	c.values = append(c.values, v)
	return meaning{place: place, number: v}, api.Fault{}
}
