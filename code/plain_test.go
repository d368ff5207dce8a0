package code_test

import (
	"math/big"
	"math/rand/v2"
	"slices"
	"strings"

	"helix/api"
)

// A plain reading of the chapter, with which the package is held. Numbers have any size, and what bytes say is read as if all were well, and written again: they are a code's just if that gives the very same bytes.

// from tells whether a number lies from low to high.
func from(low, high, n int) bool { return low <= n && n <= high }

// plainRight is K1.
func plainRight(c api.Code) bool {
	right := from(2, 20, c.Letters) && from(1, 10, c.Planes) && from(1, 16, c.Regs) && from(0, 65536, c.Most) &&
		from(-65537, 65537, c.Lo) && from(-65537, 65537, c.Hi) && c.Lo <= c.Hi &&
		len(c.Table) == c.Letters*c.Letters && len(c.Consts) <= 100 && len(c.Cell) <= 1000 && len(c.Arrows) <= 160
	for _, l := range [][]int{c.Table, c.Consts} {
		for _, n := range l {
			right = right && from(-1152921504606846976, 1152921504606846976, n)
		}
	}
	for _, in := range c.Cell {
		right = right && from(1, 8, in.Op) && from(0, 65535, in.A) && from(0, 65535, in.B) && from(0, 65535, in.C)
	}
	for _, a := range c.Arrows {
		right = right && from(0, 65535, a.Plane) && from(0, 65535, a.Bit) && from(0, 65535, a.From) && from(0, 65535, a.Step)
	}
	return right
}

// plainNumbers are a code's, in the order of K2.
func plainNumbers(c api.Code) []int {
	l := []int{c.Letters, c.Planes, c.Regs, c.Lo, c.Hi, c.Most}
	l = append(l, c.Table...)
	l = append(append(l, len(c.Consts)), c.Consts...)
	l = append(l, len(c.Cell))
	for _, in := range c.Cell {
		l = append(l, in.Op, in.A, in.B, in.C)
	}
	l = append(l, len(c.Arrows))
	for _, a := range c.Arrows {
		l = append(l, a.Plane, a.Bit, a.From, a.Step)
	}
	return l
}

// plainNumber is a number as bytes.
func plainNumber(n int) string {
	v := big.NewInt(int64(n))
	v.Mul(v, big.NewInt(2))
	if v.Sign() < 0 {
		v.Neg(v).Sub(v, big.NewInt(1))
	}
	var digits []byte
	for len(digits) == 0 || v.Sign() > 0 {
		rest := new(big.Int)
		v.DivMod(v, big.NewInt(128), rest)
		digits = append(digits, byte(rest.Int64()))
	}
	for k := range len(digits) - 1 {
		digits[k] += 128
	}
	return string(digits)
}

// plainCheck is the check of bytes: the sums are of any size until the end.
func plainCheck(s string) string {
	a, b := big.NewInt(1), new(big.Int)
	for _, c := range []byte(s) {
		a.Add(a, big.NewInt(int64(c)))
		b.Add(b, a)
	}
	a.Mod(a, big.NewInt(65521))
	b.Mod(b, big.NewInt(65521))
	low := func(v *big.Int) byte { return byte(v.Int64() & 255) }
	high := func(v *big.Int) byte { return byte(v.Int64() >> 8) }
	return string([]byte{low(a), high(a), low(b), high(b)})
}

// sealed are bytes with their check.
func sealed(s string) string { return s + plainCheck(s) }

// numbersAsBytes are numbers, one behind the other.
func numbersAsBytes(l ...int) string {
	var b strings.Builder
	for _, n := range l {
		b.WriteString(plainNumber(n))
	}
	return b.String()
}

// plainEncode is K2, of a right code.
func plainEncode(c api.Code) string { return sealed("HLX1" + numbersAsBytes(plainNumbers(c)...)) }

// readAll are the numbers that bytes say, whichever way; ok is false where one ends too soon, or has no place in an int.
func readAll(s string) (l []int, ok bool) {
	v, digits := new(big.Int), uint(0)
	for _, c := range []byte(s) {
		v.Add(v, new(big.Int).Lsh(big.NewInt(int64(c&127)), 7*digits))
		if digits++; c >= 128 {
			continue
		}
		if v.Bit(0) == 1 {
			v.Add(v, big.NewInt(1)).Neg(v)
		}
		v.Quo(v, big.NewInt(2))
		if !v.IsInt64() {
			return nil, false
		}
		l = append(l, int(v.Int64()))
		v, digits = new(big.Int), 0
	}
	return l, digits == 0
}

// plainDecode is K3.
func plainDecode(s string) (api.Code, bool) {
	if len(s) < 8 {
		return api.Code{}, false
	}
	numbers, ok := readAll(s[4 : len(s)-4])
	take := func(n int) []int {
		if !ok || n < 0 || n > len(numbers) {
			ok = false
			return make([]int, min(max(n, 0), 6))
		}
		l := slices.Clone(numbers[:n])
		numbers = numbers[n:]
		return l
	}
	head := take(6)
	c := api.Code{Letters: head[0], Planes: head[1], Regs: head[2], Lo: head[3], Hi: head[4], Most: head[5]}
	if !from(2, 20, c.Letters) {
		return api.Code{}, false
	}
	c.Table = take(c.Letters * c.Letters)
	c.Consts = take(take(1)[0])
	for n := take(1)[0]; ok && n > 0; n-- {
		l := take(4)
		c.Cell = append(c.Cell, api.Instr{Op: l[0], A: l[1], B: l[2], C: l[3]})
	}
	for n := take(1)[0]; ok && n > 0; n-- {
		l := take(4)
		c.Arrows = append(c.Arrows, api.Arrow{Plane: l[0], Bit: l[1], From: l[2], Step: l[3]})
	}
	if !ok || !plainRight(c) || plainEncode(c) != s {
		return api.Code{}, false
	}
	return c, true
}

// plainList is K4, of a right code: forms, of which signs are filled in.
func plainList(c api.Code) string {
	forms := []string{"", "none rA", "start rA cB W", "load rA pB S", "add rA cB", "table rA", "meet rA rB bC", "keep pA rB", "end pA cB W"}
	var b strings.Builder
	for _, in := range c.Cell {
		for _, sign := range []byte(forms[in.Op]) {
			switch {
			case sign == 'A':
				b.WriteString(big.NewInt(int64(in.A)).String())
			case sign == 'B':
				b.WriteString(big.NewInt(int64(in.B)).String())
			case sign == 'W' && in.C < 4:
				b.WriteString([]string{"any", "row", "column", "corner"}[in.C])
			case sign == 'S' && in.C < 4:
				b.WriteString([]string{"here", "M", "D", "I"}[in.C])
			case sign == 'C' || sign == 'W' || sign == 'S':
				b.WriteString(big.NewInt(int64(in.C)).String())
			default:
				b.WriteByte(sign)
			}
		}
		b.WriteByte('\n')
	}
	return b.String()
}

// maker makes codes of many shapes.
type maker struct{ *rand.Rand }

func newMaker(seed uint64) maker { return maker{rand.New(rand.NewPCG(seed, 15))} }

// between is a number from low to high, one of both ends often.
func (m maker) between(low, high int) int {
	switch m.IntN(8) {
	case 0:
		return low
	case 1:
		return high
	}
	return low + m.IntN(high-low+1)
}

// numbers are n of them, of all sizes on either side of 0.
func (m maker) numbers(n int) []int {
	var l []int
	for range n {
		size := 1 << m.IntN(61)
		l = append(l, m.between(-size, size))
	}
	return l
}

// fields are four of an instruction or of an arrow.
func (m maker) fields() [4]int {
	var l [4]int
	for k := range l {
		l[k] = m.between(0, []int{1, 3, 4, 9, 63, 64, 300, 65535}[m.IntN(8)])
	}
	return l
}

// code is a right one, of at most so many constants, instructions, arrows each.
func (m maker) code(most int) api.Code {
	c := api.Code{Letters: m.between(2, 20), Planes: m.between(1, 10), Regs: m.between(1, 16), Most: m.between(0, 65536)}
	size := []int{0, 1, 5, 63, 64, 65, 9000, 65537}[m.IntN(8)]
	c.Lo = m.between(-size, size)
	c.Hi = m.between(c.Lo, size)
	if m.IntN(3) > 0 {
		c.Letters = 2 + m.IntN(3)
	}
	c.Table = m.numbers(c.Letters * c.Letters)
	c.Consts = m.numbers(m.between(0, min(100, most)))
	for range m.between(0, min(1000, most)) {
		l := m.fields()
		c.Cell = append(c.Cell, api.Instr{Op: 1 + m.IntN(8), A: l[0], B: l[1], C: l[2]})
	}
	for range m.between(0, min(160, most)) {
		l := m.fields()
		c.Arrows = append(c.Arrows, api.Arrow{Plane: l[0], Bit: l[1], From: l[2], Step: l[3]})
	}
	return c
}
