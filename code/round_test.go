package code_test

import (
	"math"
	"reflect"
	"slices"
	"testing"

	"helix/api"
	"helix/code"
)

// Codes of many shapes are held to the plain reading.
func TestManyCodes(t *testing.T) {
	count := map[string]int{}
	for seed := range uint64(4000) {
		m := newMaker(seed)
		c := m.code([]int{0, 1, 3, 10, 40, 1000}[m.IntN(6)])
		taken(t, c)
		for what, is := range map[string]bool{
			"no constant": len(c.Consts) == 0, "no instruction": len(c.Cell) == 0, "no arrow": len(c.Arrows) == 0,
			"constants": len(c.Consts) > 63, "instructions": len(c.Cell) > 63, "arrows": len(c.Arrows) > 63, "letters": c.Letters > 7,
		} {
			if is {
				count[what]++
			}
		}
	}
	if len(count) != 7 {
		t.Fatal("of too few kinds", count)
	}
	for what, n := range count {
		if n < 200 {
			t.Error("of too few kinds", what, count)
		}
	}
}

// K5: bytes of a right code, one of which is another one, are refused: each byte, each other.
func TestOneByteTurned(t *testing.T) {
	tried := 0
	for seed := range uint64(60) {
		c := small()
		if seed > 0 {
			c = newMaker(seed).code(6)
		}
		s := []byte(taken(t, c))
		if len(s) > 250 { // to try all of its bytes takes long
			continue
		}
		tried++
		for k := range s {
			was := s[k]
			for n := range 256 {
				if s[k] = byte(n); s[k] == was {
					continue
				}
				if c, e := code.Decode(string(s)); e != api.ErrCode || !sameCode(c, api.Code{}) {
					t.Fatalf("K5: byte %d is %d, not %d: %+v, %v", k, n, was, c, e)
				}
			}
			s[k] = was
		}
	}
	if tried < 30 {
		t.Error("of too few kinds", tried)
	}
}

// Each piece of a right code's bytes from the beginning on is refused, with its own check too.
func TestCutShort(t *testing.T) {
	for seed := range uint64(40) {
		m := newMaker(seed)
		s := taken(t, m.code(8))
		for k := range len(s) {
			noCode(t, "cut short", s[:k])
			if k < len(s)-4 {
				noCode(t, "cut short, with a check", sealed(s[:k]))
			}
			noCode(t, "with one more", s+s[:k+1])
		}
	}
}

// Bytes that are turned here and there, and sealed anew: Decode takes just those that some right code has (K3).
func TestTurnedAndSealed(t *testing.T) {
	count := map[bool]int{}
	for seed := range uint64(15000) {
		m := newMaker(seed)
		s := plainEncode(m.code(m.IntN(4)))
		b := []byte(s[:len(s)-4])
		for range 1 + m.IntN(2) {
			at := 4 + m.IntN(len(b)-4)
			switch m.IntN(4) {
			case 0:
				b = slices.Insert(b, at, []byte{0, 1, 2, 127, 128, 255}[m.IntN(6)])
			case 1:
				b = slices.Delete(b, at, at+1)
			default:
				b[at] = []byte{0, 1, 2, 3, 4, 127, 128, 129, 255, byte(m.IntN(256))}[m.IntN(10)]
			}
			if len(b) < 6 {
				break
			}
		}
		count[decodes(t, "turned", sealed(string(b)))]++
	}
	if count[true] < 1500 || count[false] < 1500 {
		t.Error("of too few kinds", count)
	}
}

// Any bytes: Decode ends, with ErrCode where they are none's.
func TestAnyBytes(t *testing.T) {
	for seed := range uint64(20000) {
		m := newMaker(seed)
		b := make([]byte, m.IntN(40))
		for k := range b {
			b[k] = byte(m.IntN(1 << (1 + m.IntN(8))))
		}
		s := string(b)
		if m.IntN(2) == 0 {
			s = sealed("HLX1" + s)
		}
		decodes(t, "any bytes", s)
	}
}

// Any code: each call ends, with ErrCode just where it is not right (R1).
func TestAnything(t *testing.T) {
	count := map[bool]int{}
	for seed := range uint64(10000) {
		m := newMaker(seed)
		c := m.code(4)
		for range 1 + m.IntN(2) {
			l := []*int{&c.Letters, &c.Planes, &c.Regs, &c.Lo, &c.Hi, &c.Most, &c.Table[0]}
			for k := range c.Consts {
				l = append(l, &c.Consts[k])
			}
			for k := range c.Cell {
				l = append(l, &c.Cell[k].Op, &c.Cell[k].A, &c.Cell[k].B, &c.Cell[k].C)
			}
			for k := range c.Arrows {
				l = append(l, &c.Arrows[k].Plane, &c.Arrows[k].Bit, &c.Arrows[k].From, &c.Arrows[k].Step)
			}
			*l[m.IntN(len(l))] = []int{-1, 0, 1, 2, 8, 9, 16, 17, 65535, 65536, 65537, 65538, -65538, 1 << 60, 1<<60 + 1, math.MaxInt, math.MinInt}[m.IntN(17)]
		}
		right := plainRight(c)
		if count[right]++; right {
			taken(t, c)
		} else {
			refused(t, "anything", c)
		}
	}
	if count[true] < 2000 || count[false] < 2000 {
		t.Error("of too few kinds", count)
	}
	refused(t, "no code at all", api.Code{})
}

// roomy gives a list spare room that is filled.
func roomy[T any](l []T, fill T) []T {
	return append(append(make([]T, 0, len(l)+3), l...), fill, fill, fill)[:len(l)]
}

// whole is a list with its spare room, copied.
func whole[T any](l []T) []T { return slices.Clone(l[:cap(l)]) }

// lookAt copies all that a code holds, its lists' spare room too.
func lookAt(c api.Code) api.Code {
	c.Table, c.Consts, c.Cell, c.Arrows = whole(c.Table), whole(c.Consts), whole(c.Cell), whole(c.Arrows)
	return c
}

// fill writes over a list and its spare room.
func fill[T any](l []T, with T) {
	for k := range l[:cap(l)] {
		l[:cap(l)][k] = with
	}
}

// What is handed in is not changed, nor its spare room (R5), and what is answered hangs on what is handed in alone (R6).
func TestHandedInStays(t *testing.T) {
	for seed := range uint64(2000) {
		m := newMaker(seed)
		plain := m.code(5)
		c := copied(plain)
		c.Table, c.Consts = roomy(c.Table, 77), roomy(c.Consts, 77)
		c.Cell, c.Arrows = roomy(c.Cell, api.Instr{Op: 77}), roomy(c.Arrows, api.Arrow{Plane: 77})
		before := lookAt(c)
		s := taken(t, c)
		if l, _ := code.List(c); l != plainList(plain) || s != plainEncode(plain) {
			t.Fatalf("R6: %+v: %x, %q", plain, s, l)
		}
		if !reflect.DeepEqual(before, lookAt(c)) {
			t.Fatalf("R5: %+v changed to %+v", before, lookAt(c))
		}
	}
}

// What Decode answers is new memory each time, and no two lists of it share any (R5).
func TestListsApart(t *testing.T) {
	for seed := range uint64(300) {
		want := newMaker(seed).code(5)
		s := plainEncode(want)
		first, _ := code.Decode(s)
		second, _ := code.Decode(s)
		fill(second.Table, 55)
		fill(second.Cell, api.Instr{Op: 55})
		fill(second.Arrows, api.Arrow{Bit: 55})
		if !slices.Equal(second.Consts, want.Consts) {
			t.Fatal("R5: Consts share memory")
		}
		fill(second.Consts, 66)
		if slices.Contains(second.Table, 66) {
			t.Fatal("R5: Table and Consts share memory")
		}
		if third, _ := code.Decode(s); !sameCode(first, want) || !sameCode(third, want) {
			t.Fatal("R5: two answers share memory")
		}
	}
}

// A nil list and an empty one are the same (R4).
func TestEmptyLists(t *testing.T) {
	c := small()
	c.Consts, c.Cell, c.Arrows = nil, nil, nil
	without := taken(t, c)
	c.Consts, c.Cell, c.Arrows = []int{}, []api.Instr{}, []api.Arrow{}
	if s := taken(t, c); s != without {
		t.Errorf("R4: %x, not %x", s, without)
	}
	c.Table = []int{}
	refused(t, "an empty table", c)
	c.Table = nil
	refused(t, "no table", c)
}
