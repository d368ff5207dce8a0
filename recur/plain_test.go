package recur_test

import (
	"math/big"
	"strings"

	"helix/api"
)

// A plain reading of the chapter, with which the package is held: it knows neither the package nor those that it stands on, asks of each two states what the chapter says of them, and has numbers of any size.

var (
	bigConst = new(big.Int).Lsh(big.NewInt(1), 56)
	bigValue = new(big.Int).Lsh(big.NewInt(1), 57)
)

// plainValues are the numbers of definitions, and whether they are all right.
func plainValues(l []api.Def) ([]*big.Int, bool) {
	if len(l) > 5004 {
		return nil, false
	}
	var values []*big.Int
	for at, d := range l {
		names := []int{}
		switch {
		case d.Op < 1 || d.Op > 7:
			return nil, false
		case d.Op == 1 && (d.A != 0 || d.B != 0), d.Op == 2 && d.B != 0, d.Op != 1 && d.Num != 0:
			return nil, false
		case d.Op == 2:
			names = []int{d.A}
		case d.Op > 2:
			names = []int{d.A, d.B}
		}
		of := []*big.Int{}
		for _, p := range names {
			if p < 0 || p >= at {
				return nil, false
			}
			of = append(of, values[p])
		}
		v := plainWorth(d, of)
		if v.CmpAbs(bigValue) > 0 {
			return nil, false
		}
		values = append(values, v)
	}
	return values, true
}

// plainWorth is the number of a definition by those that it names.
func plainWorth(d api.Def, of []*big.Int) *big.Int {
	v := new(big.Int)
	switch d.Op {
	case 1:
		return v.SetInt64(int64(d.Num))
	case 2:
		return v.Neg(of[0])
	case 3:
		return v.Add(of[0], of[1])
	case 4:
		return v.Sub(of[0], of[1])
	case 5:
		return v.Mul(of[0], of[1])
	}
	if (of[0].Cmp(of[1]) < 0) == (d.Op == 6) {
		return v.Set(of[0])
	}
	return v.Set(of[1])
}

// plainAlphabet says what chapter 1 says of alphabets.
func plainAlphabet(s string) bool {
	for at, c := range s {
		if c < 'A' || c > 'Z' || strings.ContainsRune(s[:at], c) {
			return false
		}
	}
	return len(s) >= 2 && len(s) <= 20
}

// plainScheme says whether a scheme is right (chapter 9).
func plainScheme(s api.Scheme) bool {
	values, ok := plainValues(s.Defs)
	if !ok || len(s.Defs) > 5000 || !plainAlphabet(s.Letters) || len(s.Subst) != len(s.Letters)*len(s.Letters) || len(s.Pieces) > 4 || s.Mode < 1 || s.Mode > 4 {
		return false
	}
	costs := []int{s.Front, s.Back}
	for _, p := range s.Pieces {
		costs = append(costs, p.Open, p.Extend)
	}
	places := append(append([]int{s.Least}, s.Subst...), costs...)
	if s.Banded {
		places = append(places, s.Lo, s.Hi)
	}
	for _, p := range places {
		if p < 0 || p >= len(values) || values[p].CmpAbs(bigConst) > 0 {
			return false
		}
	}
	for _, p := range costs {
		if values[p].Sign() < 0 {
			return false
		}
	}
	if s.Banded {
		return values[s.Lo].Cmp(values[s.Hi]) <= 0
	}
	return s.Lo == 0 && s.Hi == 0
}

// plainLower is the recurrence of a right scheme.
func plainLower(s api.Scheme) api.Recur {
	values, _ := plainValues(s.Defs)
	at := map[int][2]int{1: {1, 1}, 2: {2, 2}, 3: {3, 3}, 4: {1, 3}}[s.Mode]
	r := api.Recur{Letters: len(s.Letters), Begin: at[0], End: at[1], Front: s.Front, Back: s.Back, Banded: s.Banded}
	if s.Banded {
		r.Lo, r.Hi = int(values[s.Lo].Int64()), int(values[s.Hi].Int64())
	}
	r.Subst = append(r.Subst, s.Subst...)
	r.Defs = append(r.Defs, s.Defs...)
	for _, p := range s.Pieces {
		r.Defs = append(r.Defs, api.Def{Op: 3, A: p.Open, B: p.Extend})
	}
	for to := range 2*len(s.Pieces) + 1 {
		state := api.State{Kind: plainKind(s, to)}
		for from := -1; from <= 2*len(s.Pieces); from++ {
			if cost, ok := plainEdge(s, from, to); ok {
				state.From = append(state.From, api.Edge{State: from, Cost: cost})
			}
		}
		r.States = append(r.States, state)
	}
	return r
}

// plainKind is that of a scheme's state; 0 of -1, which is none.
func plainKind(s api.Scheme, state int) int {
	switch n := len(s.Pieces); {
	case state < 0:
		return 0
	case state == 0:
		return 1
	case state <= n:
		return 2
	}
	return 3
}

// plainEdge tells the cost of the edge from one state into another, if there is one.
func plainEdge(s api.Scheme, from, to int) (int, bool) {
	if to == 0 {
		return -1, true
	}
	piece := (to - 1) % len(s.Pieces)
	if from == to {
		return s.Pieces[piece].Extend, true
	}
	return len(s.Defs) + piece, plainKind(s, from) != plainKind(s, to)
}

// plainRight says whether a recurrence is right, each thing for itself.
func plainRight(r api.Recur) bool {
	values, ok := plainValues(r.Defs)
	if !ok || r.Letters < 2 || r.Letters > 20 || len(r.Subst) != r.Letters*r.Letters {
		return false
	}
	if r.Begin < 1 || r.Begin > 3 || r.End < 1 || r.End > 3 || len(r.States) > 9 {
		return false
	}
	places := append([]int{r.Front, r.Back}, r.Subst...)
	for _, s := range r.States {
		if s.Kind < 1 || s.Kind > 3 {
			return false
		}
		for k, e := range s.From {
			if e.State < -1 || e.State >= len(r.States) || k > 0 && s.From[k-1].State >= e.State {
				return false
			}
			if e.Cost != -1 {
				places = append(places, e.Cost)
			}
		}
	}
	for _, p := range places {
		if p < 0 || p >= len(values) {
			return false
		}
	}
	if values[r.Front].Sign() < 0 || values[r.Back].Sign() < 0 {
		return false
	}
	return r.Banded && r.Lo <= r.Hi || !r.Banded && r.Lo == 0 && r.Hi == 0
}

// plainFolded says whether a recurrence has numbers alone.
func plainFolded(r api.Recur) bool {
	numbers := 0
	for _, d := range r.Defs {
		if d.Op == 1 {
			numbers++
		}
	}
	return numbers == len(r.Defs)
}
