package code

import "helix/api"

const (
	mark    = "HLX1" // the bytes that each code begins with
	modulus = 65521  // what the check's sums are taken by
)

// written are the bytes of a right code, between the mark and the check.
func written(c api.Code) []byte {
	b := laid(nil, c.Letters, c.Planes, c.Regs, c.Lo, c.Hi, c.Most)
	b = laid(b, c.Table...)
	b = laid(b, len(c.Consts))
	b = laid(b, c.Consts...)
	b = laid(b, len(c.Cell))
	for _, in := range c.Cell {
		b = laid(b, in.Op, in.A, in.B, in.C)
	}
	b = laid(b, len(c.Arrows))
	for _, a := range c.Arrows {
		b = laid(b, a.Plane, a.Bit, a.From, a.Step)
	}
	return b
}

// laid has numbers behind the bytes.
func laid(b []byte, numbers ...int) []byte {
	for _, n := range numbers {
		rest := doubled(n)
		for rest >= 128 {
			b = append(b, byte(rest%128+128))
			rest /= 128
		}
		b = append(b, byte(rest))
	}
	return b
}

// doubled makes one number of a number and its sign, so that those close to 0, on either side, are short.
func doubled(n int) uint64 {
	if n < 0 {
		return 2*uint64(-n) - 1
	}
	return 2 * uint64(n)
}

// halved is the number that doubled has made.
func halved(n uint64) int {
	if n%2 == 1 {
		return -int(n/2) - 1
	}
	return int(n / 2)
}

// check is the bytes' check, as bytes.
func check(s string) string {
	a, b := 1, 0
	for i := range len(s) {
		a = (a + int(s[i])) % modulus
		b = (b + a) % modulus
	}
	return string([]byte{byte(a % 256), byte(a / 256), byte(b % 256), byte(b / 256)})
}
