package check

import (
	"math/bits"

	"helix/alpha"
	"helix/api"
)

// isDef tells whether a definition may stand at a place: it has what its Op has, and names what is ahead of it alone.
func isDef(d api.Def, place int) bool {
	ahead := func(p int) bool { return p >= 0 && p < place }
	switch d.Op {
	case api.DefNum:
		return d.A == 0 && d.B == 0
	case api.DefNeg:
		return d.Num == 0 && ahead(d.A) && d.B == 0
	case api.DefAdd, api.DefSub, api.DefMul, api.DefMin, api.DefMax:
		return d.Num == 0 && ahead(d.A) && ahead(d.B)
	}
	return false
}

// worth is the number of a definition, whose places are ahead of it, by theirs; false, if it is too great for any definition.
func worth(d api.Def, values []int) (int, bool) {
	v := d.Num
	switch d.Op {
	case api.DefNeg:
		v = -values[d.A]
	case api.DefAdd:
		v = values[d.A] + values[d.B]
	case api.DefSub:
		v = values[d.A] - values[d.B]
	case api.DefMul:
		return times(values[d.A], values[d.B])
	case api.DefMin:
		v = min(values[d.A], values[d.B])
	case api.DefMax:
		v = max(values[d.A], values[d.B])
	}
	return v, within(v, api.MaxValue)
}

// times works in 128 bits, since two numbers that may be can make one that no int holds.
func times(a, b int) (int, bool) {
	over, v := bits.Mul64(size(a), size(b))
	if over != 0 || v > api.MaxValue {
		return 0, false
	}
	if (a < 0) != (b < 0) {
		return -int(v), true
	}
	return int(v), true
}

// size is a number without its sign.
func size(n int) uint64 {
	if n < 0 {
		return uint64(-n)
	}
	return uint64(n)
}

func within(n, most int) bool { return n >= -most && n <= most }

// valuesOf tells the numbers of a scheme's definitions; false, if it is not right.
func valuesOf(s api.Scheme) ([]int, bool) {
	n := len(s.Letters)
	if !alpha.Right(s.Letters) || len(s.Defs) > api.MaxDefs || len(s.Subst) != n*n || len(s.Pieces) > api.MaxPieces {
		return nil, false
	}
	if s.Mode < api.Global || s.Mode > api.Extend {
		return nil, false
	}
	values, e := Values(s.Defs...)
	if e != api.OK {
		return nil, false
	}
	return values, arePlaces(s, values)
}

// arePlaces tells whether all that is a place in a scheme is one, of a number that may stand there.
func arePlaces(s api.Scheme, values []int) bool {
	from := func(least int, places ...int) bool {
		for _, p := range places {
			if p < 0 || p >= len(values) || values[p] < least || values[p] > api.MaxConst {
				return false
			}
		}
		return true
	}
	for _, p := range s.Pieces {
		if !from(0, p.Open, p.Extend) {
			return false
		}
	}
	if !from(-api.MaxConst, s.Subst...) || !from(-api.MaxConst, s.Least) || !from(0, s.Front, s.Back) {
		return false
	}
	if !s.Banded {
		return s.Lo == 0 && s.Hi == 0
	}
	return from(-api.MaxConst, s.Lo, s.Hi) && values[s.Lo] <= values[s.Hi]
}
