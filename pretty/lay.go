package pretty

import (
	"strconv"

	"helix/api"
)

// layItem lays a right item down as a line.
func layItem(i api.Item, lay layer) bool {
	return layHead(i, lay) && layAll(i.Args, itemSign(i.Kind), lay) && lay(";\n")
}

// layHead lays down what stands ahead of an item's expressions.
func layHead(i api.Item, lay layer) bool {
	switch i.Kind {
	case api.ItemLet:
		return lay("let ", i.Name, " = ")
	case api.ItemMode:
		return lay("mode ", i.Name)
	}
	return lay(itemWord(i.Kind), " ")
}

// itemWord is the word of an item that has no name.
func itemWord(kind int) string {
	switch kind {
	case api.ItemAlphabet:
		return "alphabet"
	case api.ItemMatch:
		return "match"
	case api.ItemMismatch:
		return "mismatch"
	case api.ItemPair:
		return "pair"
	case api.ItemGap:
		return "gap"
	case api.ItemBand:
		return "band"
	case api.ItemClip:
		return "clip"
	}
	return "least"
}

// itemSign is what stands between the two expressions of an item that has two.
func itemSign(kind int) string {
	if kind == api.ItemBand {
		return " .. "
	}
	return ", "
}

// layAll lays expressions down, with a sign between two of them.
func layAll(l []api.Expr, sign string, lay layer) bool {
	for n, e := range l {
		if n > 0 && !lay(sign) || !layExpr(e, lay) {
			return false
		}
	}
	return true
}

// layExpr lays a right expression down.
func layExpr(e api.Expr, lay layer) bool {
	switch e.Kind {
	case api.ExprNum:
		return lay(strconv.Itoa(e.Num))
	case api.ExprName:
		return lay(e.Text)
	case api.ExprText:
		return lay(`"`, e.Text, `"`)
	case api.ExprNeg:
		return lay("-") && layKid(e.Kids[0], alone, lay)
	case api.ExprMin:
		return lay("min(") && layAll(e.Kids, ", ", lay) && lay(")")
	case api.ExprMax:
		return lay("max(") && layAll(e.Kids, ", ", lay) && lay(")")
	}
	return layBoth(e, lay)
}

// layBoth lays an expression down that has a sign between its two Kids.
func layBoth(e api.Expr, lay layer) bool {
	f := firmness(e.Kind)
	// Rows are read from the left: a right Kid that is no firmer would be read as two of the row.
	return layKid(e.Kids[0], f, lay) && lay(" ", between(e.Kind), " ") && layKid(e.Kids[1], f+1, lay)
}

// layKid lays a Kid down, in brackets if it is less firm than its place asks.
func layKid(e api.Expr, asked int, lay layer) bool {
	if firmness(e.Kind) >= asked {
		return layExpr(e, lay)
	}
	return lay("(") && layExpr(e, lay) && lay(")")
}

// How firm an expression is: what is less firm is read apart by the signs around it.
const (
	sum = iota
	product
	alone
)

func firmness(kind int) int {
	switch kind {
	case api.ExprAdd, api.ExprSub:
		return sum
	case api.ExprMul:
		return product
	}
	return alone
}

// between is the sign between two Kids.
func between(kind int) string {
	switch kind {
	case api.ExprAdd:
		return "+"
	case api.ExprSub:
		return "-"
	}
	return "*"
}
