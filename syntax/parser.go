package syntax

import "helix/api"

// cursor goes through tokens. It never leaves the last one, the end.
type cursor struct {
	tokens []api.Token
	place  int
}

// here is the token at which the cursor stands.
func (c *cursor) here() api.Token { return c.tokens[c.place] }

// sees tells whether it stands at that word or sign.
func (c *cursor) sees(kind int, text string) bool {
	t := c.here()
	// A text may read like a word, or like a sign.
	return t.Kind == kind && t.Text == text
}

// next goes on, and tells the token that it leaves.
func (c *cursor) next() api.Token {
	t := c.here()
	if t.Kind != api.TokEnd {
		c.place++
	}
	return t
}

// parser reads the tokens of the cursor that it embeds, each method by one rule of the grammar.
type parser struct {
	cursor
	// fault is what is told if nothing that stands ahead of it comes.
	fault api.Fault
}

// wrong notes that no source goes on with the token here, and tells it. It stands ahead of what is too many, wherever that was.
func (p *parser) wrong() api.Fault {
	p.fault = api.Fault{Code: api.ErrSyntax, At: p.here().At}
	return p.fault
}

// tooMany notes that what begins here is one too many. The look goes on, since what is wrong behind it stands ahead of it.
func (p *parser) tooMany() {
	if p.fault.Code == api.OK {
		p.fault = api.Fault{Code: api.ErrMany, At: p.here().At}
	}
}

// sign goes past a sign that must stand here.
func (p *parser) sign(s string) {
	if !p.sees(api.TokSign, s) {
		panic(p.wrong())
	}
	p.next()
}

func (p *parser) source() []api.Item {
	var items []api.Item
	for p.here().Kind != api.TokEnd {
		if len(items) == api.MaxItems {
			p.tooMany()
		}
		items = append(items, p.item())
	}
	return items
}

func (p *parser) item() api.Item {
	i := p.begin()
	switch i.Kind {
	case api.ItemLet:
		i.Name = p.name()
		p.sign("=")
		i.Args = []api.Expr{p.expr()}
	case api.ItemMode:
		i.Name = p.way()
	case api.ItemBand:
		i.Args = p.both("..")
	case api.ItemPair, api.ItemGap, api.ItemClip:
		i.Args = p.both(",")
	default:
		i.Args = []api.Expr{p.expr()}
	}
	p.sign(";")
	return i
}

// begin goes past the word that an item begins with, and tells the item's kind and place.
func (p *parser) begin() api.Item {
	t := p.here()
	kind := itemKind(t.Text)
	if t.Kind != api.TokWord || kind == 0 {
		panic(p.wrong())
	}
	p.next()
	return api.Item{Kind: kind, At: t.At}
}

func (p *parser) name() string {
	if p.here().Kind != api.TokName {
		panic(p.wrong())
	}
	return p.next().Text
}

func (p *parser) way() string {
	t := p.here()
	if t.Kind != api.TokWord || !isWay(t.Text) {
		panic(p.wrong())
	}
	return p.next().Text
}

// both tells two expressions that a sign parts.
func (p *parser) both(sign string) []api.Expr {
	a := p.expr()
	p.sign(sign)
	b := p.expr()
	return []api.Expr{a, b}
}

func (p *parser) expr() api.Expr {
	e := p.term()
	for p.sees(api.TokSign, "+") || p.sees(api.TokSign, "-") {
		kind := api.ExprAdd
		if p.sees(api.TokSign, "-") {
			kind = api.ExprSub
		}
		at := p.next().At
		e = api.Expr{Kind: kind, Kids: []api.Expr{e, p.term()}, At: at}
	}
	return e
}

func (p *parser) term() api.Expr {
	e := p.factor()
	for p.sees(api.TokSign, "*") {
		at := p.next().At
		e = api.Expr{Kind: api.ExprMul, Kids: []api.Expr{e, p.factor()}, At: at}
	}
	return e
}

func (p *parser) factor() api.Expr {
	switch p.here().Kind {
	case api.TokNumber:
		t := p.next()
		return api.Expr{Kind: api.ExprNum, Num: t.Num, At: t.At}
	case api.TokName:
		t := p.next()
		return api.Expr{Kind: api.ExprName, Text: t.Text, At: t.At}
	case api.TokText:
		t := p.next()
		return api.Expr{Kind: api.ExprText, Text: t.Text, At: t.At}
	}
	return p.compound()
}

// compound is a factor that has others within.
func (p *parser) compound() api.Expr {
	switch {
	case p.sees(api.TokSign, "-"):
		at := p.next().At
		return api.Expr{Kind: api.ExprNeg, Kids: []api.Expr{p.factor()}, At: at}
	case p.sees(api.TokSign, "("):
		p.next()
		e := p.expr()
		p.sign(")")
		return e
	case p.sees(api.TokWord, "min"):
		at := p.next().At
		return api.Expr{Kind: api.ExprMin, Kids: p.kids(), At: at}
	case p.sees(api.TokWord, "max"):
		at := p.next().At
		return api.Expr{Kind: api.ExprMax, Kids: p.kids(), At: at}
	}
	panic(p.wrong())
}

// kids tells what stands in the brackets of min and max.
func (p *parser) kids() []api.Expr {
	p.sign("(")
	kids := []api.Expr{p.expr()}
	for p.sees(api.TokSign, ",") {
		p.next()
		if len(kids) == api.MaxKids {
			p.tooMany()
		}
		kids = append(kids, p.expr())
	}
	p.sign(")")
	return kids
}
