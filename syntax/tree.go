package syntax

import (
	"helix/api"
	"helix/lex"
)

// Right tells whether a tree is built as those of sources are.
func Right(t api.Tree) bool {
	if len(t.Items) > api.MaxItems {
		return false
	}
	for _, i := range t.Items {
		if !rightItem(i) {
			return false
		}
	}
	return true
}

// rightItem tells whether an item has what its kind has, and nothing else.
func rightItem(i api.Item) bool {
	switch i.Kind {
	case api.ItemLet:
		return lex.IsName(i.Name) && len(i.Args) == 1 && rightAll(i.Args, api.MaxDepth)
	case api.ItemMode:
		return isWay(i.Name) && len(i.Args) == 0
	case api.ItemAlphabet, api.ItemMatch, api.ItemMismatch, api.ItemLeast:
		return i.Name == "" && len(i.Args) == 1 && rightAll(i.Args, api.MaxDepth)
	case api.ItemPair, api.ItemGap, api.ItemBand, api.ItemClip:
		return i.Name == "" && len(i.Args) == 2 && rightAll(i.Args, api.MaxDepth)
	}
	return false
}

// rightAll tells whether all expressions of a list are right, and none is deeper than that. It looks no deeper itself.
func rightAll(l []api.Expr, deepest int) bool {
	for _, e := range l {
		if deepest == 0 || !rightHead(e) || !rightAll(e.Kids, deepest-1) {
			return false
		}
	}
	return true
}

// rightHead tells whether an expression has what its kind has, and nothing else, whatever its Kids are.
func rightHead(e api.Expr) bool {
	switch e.Kind {
	case api.ExprNum:
		return e.Num >= 0 && e.Num <= api.MaxConst && e.Text == "" && len(e.Kids) == 0
	case api.ExprName:
		return e.Num == 0 && lex.IsName(e.Text) && len(e.Kids) == 0
	case api.ExprText:
		return e.Num == 0 && isText(e.Text) && len(e.Kids) == 0
	case api.ExprNeg:
		return e.Num == 0 && e.Text == "" && len(e.Kids) == 1
	case api.ExprAdd, api.ExprSub, api.ExprMul:
		return e.Num == 0 && e.Text == "" && len(e.Kids) == 2
	case api.ExprMin, api.ExprMax:
		return e.Num == 0 && e.Text == "" && len(e.Kids) >= 1 && len(e.Kids) <= api.MaxKids
	}
	return false
}

// isText tells whether s is what may stand between the marks of a text: lex is asked, which reads texts.
func isText(s string) bool {
	if len(s) > api.MaxText {
		return false
	}
	l, _, e := lex.Scan(`"` + s + `"`)
	// A mark within s ends the text ahead of its end.
	return e == api.OK && l[0].Text == s
}

// Same tells whether two trees are the same in all but places.
func Same(a, b api.Tree) bool {
	if len(a.Items) != len(b.Items) {
		return false
	}
	for n, i := range a.Items {
		j := b.Items[n]
		if i.Kind != j.Kind || i.Name != j.Name || !sameAll(i.Args, j.Args) {
			return false
		}
	}
	return true
}

// sameAll tells whether two lists of expressions are the same in all but places.
func sameAll(a, b []api.Expr) bool {
	if len(a) != len(b) {
		return false
	}
	for n, d := range a {
		e := b[n]
		if d.Kind != e.Kind || d.Num != e.Num || d.Text != e.Text || !sameAll(d.Kids, e.Kids) {
			return false
		}
	}
	return true
}

// Depth is an expression's.
func Depth(e api.Expr) int {
	deepest := 0
	for _, k := range e.Kids {
		deepest = max(deepest, Depth(k))
	}
	return deepest + 1
}
