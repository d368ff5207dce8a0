package gen_test

import (
	"math/big"
	"math/rand/v2"

	"helix/api"
	"helix/recur"
)

// A plain reading of P19.1, with which the package is held, in numbers of any size.

// plainError is the one that Generate must tell.
func plainError(r api.Recur, most int) api.Errno {
	if !recur.Right(r) {
		return api.ErrRecur
	}
	for _, d := range r.Defs {
		if d.Op != api.DefNum {
			return api.ErrFolded
		}
	}
	if most < 0 || most > 65536 {
		return api.ErrArg
	}
	room := new(big.Int).Lsh(big.NewInt(1), 60)
	if room.Div(room, plainWidth(r)).Cmp(big.NewInt(int64(2*most+4))) < 0 {
		return api.ErrTooLong
	}
	return api.OK
}

// plainWidth is chapter 13's W of a folded recurrence.
func plainWidth(r api.Recur) *big.Int {
	places := append([]int{r.Front, r.Back}, r.Subst...)
	for _, s := range r.States {
		for _, e := range s.From {
			if e.Cost != -1 {
				places = append(places, e.Cost)
			}
		}
	}
	w := big.NewInt(1)
	for _, p := range places {
		if n := big.NewInt(int64(r.Defs[p].Num)); n.CmpAbs(w) > 0 {
			w.Abs(n)
		}
	}
	return w
}

// plainSide is a side of a band as a code has it.
func plainSide(n int) int {
	switch {
	case n < -65537:
		return -65537
	case n > 65537:
		return 65537
	}
	return n
}

// plainBand is the band that a code has.
func plainBand(r api.Recur) (int, int) {
	if r.Banded {
		return plainSide(r.Lo), plainSide(r.Hi)
	}
	return -65536, 65536
}

// maker makes recurrences, schemes and sequences of many shapes, by numbers that are the same each time.
type maker struct{ *rand.Rand }

func newMaker(seed uint64) maker { return maker{rand.New(rand.NewPCG(seed, 19))} }

// size is how great numbers are: mostly so small that many paths are worth as much.
func (m maker) size() int { return []int{0, 1, 1, 2, 3, 9, 1 << 20, 1 << 40}[m.IntN(8)] }

// places are some of definitions, or numbers of letters.
func (m maker) places(n, below int) []int {
	l := make([]int, n)
	for k := range l {
		l[k] = m.IntN(below)
	}
	return l
}

// sequences are two of a recurrence's letters.
func (m maker) sequences(r api.Recur, below int) ([]int, []int) {
	return m.places(m.IntN(below), r.Letters), m.places(m.IntN(below), r.Letters)
}

// wild is a right, folded recurrence of numbers up to a size, with states of any kinds and edges of any sort.
func (m maker) wild(size int) api.Recur {
	r := api.Recur{Letters: 2 + m.IntN(3), Begin: 1 + m.IntN(3), End: 1 + m.IntN(3)}
	// The first three are 0 or more, so that Front and Back may be any of them.
	for k := range 3 + m.IntN(9) {
		n := m.IntN(size + 1)
		if k >= 3 && m.IntN(2) == 0 {
			n = -n
		}
		r.Defs = append(r.Defs, api.Def{Op: api.DefNum, Num: n})
	}
	r.Subst = m.places(r.Letters*r.Letters, len(r.Defs))
	r.Front, r.Back = m.IntN(3), m.IntN(3)
	if m.IntN(3) == 0 {
		m.bind(&r)
	}
	states, dense := min(m.IntN(12), 9), 1+m.IntN(4)
	for range states {
		s := api.State{Kind: 1 + m.IntN(3)}
		for from := -1; from < states; from++ {
			if m.IntN(5) < dense {
				s.From = append(s.From, api.Edge{State: from, Cost: m.IntN(len(r.Defs)+1) - 1})
			}
		}
		r.States = append(r.States, s)
	}
	return r
}

// bind gives a recurrence a band, narrow, or wide on a side.
func (m maker) bind(r *api.Recur) {
	r.Banded, r.Lo = true, m.IntN(6)-4
	r.Hi = r.Lo + m.IntN(6)
	if m.IntN(4) == 0 {
		r.Lo -= 65530 + m.IntN(12)
	}
	if m.IntN(4) == 0 {
		r.Hi += 65530 + m.IntN(12)
	}
}

// scheme is a right one, of numbers up to a size.
func (m maker) scheme(size int) api.Scheme {
	s := api.Scheme{Letters: "ACGT"[:2+m.IntN(3)], Mode: 1 + m.IntN(4)}
	number := func(n int) int {
		s.Defs = append(s.Defs, api.Def{Op: api.DefNum, Num: n})
		return len(s.Defs) - 1
	}
	for range len(s.Letters) * len(s.Letters) {
		s.Subst = append(s.Subst, number(m.IntN(2*size+1)-size))
	}
	for range m.IntN(5) {
		s.Pieces = append(s.Pieces, api.Piece{Open: number(m.IntN(size + 1)), Extend: number(m.IntN(size + 1))})
	}
	if m.IntN(3) == 0 {
		lo := m.IntN(6) - 4
		s.Banded, s.Lo, s.Hi = true, number(lo), number(lo+m.IntN(6))
	}
	s.Front, s.Back, s.Least = number(m.IntN(size+1)), number(m.IntN(size+1)), number(0)
	return s
}
