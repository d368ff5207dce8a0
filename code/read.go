package code

import "helix/api"

// longest is how many bytes a number has at most: those of MaxWide, doubled.
const longest = 9

// source is bytes that are read one behind the other. Once it is wrong it stays so, and goes on with noughts: so whoever reads asks but once, at the end.
type source struct {
	text  string
	at    int
	wrong bool
}

// cut is the next n bytes, copied, so that they are nobody else's.
func (s *source) cut(n int) []byte {
	piece := make([]byte, n)
	if s.wrong || len(s.text)-s.at < n {
		s.wrong = true
		return piece
	}
	s.at += copy(piece, s.text[s.at:])
	return piece
}

// next is the next byte.
func (s *source) next() byte {
	if s.wrong || s.at == len(s.text) {
		s.wrong = true
		return 0
	}
	s.at++
	return s.text[s.at-1]
}

// expect goes past bytes that must stand there.
func (s *source) expect(text string) {
	if string(s.cut(len(text))) != text {
		s.wrong = true
	}
}

// end is where all bytes must have been read.
func (s *source) end() {
	if s.at < len(s.text) {
		s.wrong = true
	}
}

// read are the bytes that have been read so far.
func (s *source) read() string { return s.text[:s.at] }

// number reads one.
func (s *source) number() int {
	var n uint64
	for k := range longest {
		digit := s.next()
		n += uint64(digit%128) << (7 * k)
		if digit >= 128 {
			continue
		}
		if digit == 0 && k > 0 { // there are as few digits as may be
			s.wrong = true
		}
		return halved(n)
	}
	s.wrong = true
	return 0
}

// reader reads a code; its bytes are those of the source that it embeds.
type reader struct{ source }

// sealed reads a code between its mark and its check.
func (r *reader) sealed() api.Code {
	r.expect(mark)
	c := r.code()
	r.expect(check(r.read()))
	r.end()
	return c
}

// code reads the numbers of one.
func (r *reader) code() api.Code {
	c := api.Code{Letters: r.upTo(api.MaxLetters)}
	for _, n := range []*int{&c.Planes, &c.Regs, &c.Lo, &c.Hi, &c.Most} {
		*n = r.number()
	}
	c.Table = r.numbers(c.Letters * c.Letters)
	c.Consts = r.numbers(r.upTo(api.MaxConsts))
	c.Cell = r.cell(r.upTo(api.MaxInsts))
	c.Arrows = r.arrows(r.upTo(api.MaxArrows))
	return c
}

// upTo reads a number that tells how many come, from 0 to most. Any other is wrong, and tells none, lest the lists grow beyond all codes.
func (r *reader) upTo(most int) int {
	n := r.number()
	if r.wrong || n < 0 || n > most {
		r.wrong = true
		return 0
	}
	return n
}

// numbers reads n of them.
func (r *reader) numbers(n int) []int {
	l := make([]int, n)
	for k := range l {
		l[k] = r.number()
	}
	return l
}

// cell reads n instructions.
func (r *reader) cell(n int) []api.Instr {
	l := make([]api.Instr, n)
	for k := range l {
		l[k] = api.Instr{Op: r.number(), A: r.number(), B: r.number(), C: r.number()}
	}
	return l
}

// arrows reads n of them.
func (r *reader) arrows(n int) []api.Arrow {
	l := make([]api.Arrow, n)
	for k := range l {
		l[k] = api.Arrow{Plane: r.number(), Bit: r.number(), From: r.number(), Step: r.number()}
	}
	return l
}
