package code

import "helix/api"

const (
	farthest = api.MaxLen + 1 // a band's side, on either side of 0: one past all diagonals
	widest   = 65535          // what an instruction and an arrow may name
)

// within tells whether all numbers lie from low to high.
func within(low, high int, numbers ...int) bool {
	for _, n := range numbers {
		if n < low || n > high {
			return false
		}
	}
	return true
}

// rightHead tells whether the numbers that stand ahead of the lists may be.
func rightHead(c api.Code) bool {
	return within(2, api.MaxLetters, c.Letters) && within(1, api.MaxPlanes, c.Planes) && within(1, api.MaxRegs, c.Regs) &&
		within(0, api.MaxLen, c.Most) && within(-farthest, farthest, c.Lo, c.Hi) && c.Lo <= c.Hi
}

// rightNumbers tells whether the table and the constants may be.
func rightNumbers(c api.Code) bool {
	return len(c.Table) == c.Letters*c.Letters && len(c.Consts) <= api.MaxConsts &&
		within(-api.MaxWide, api.MaxWide, c.Table...) && within(-api.MaxWide, api.MaxWide, c.Consts...)
}

// rightCell tells whether the instructions may be.
func rightCell(cell []api.Instr) bool {
	if len(cell) > api.MaxInsts {
		return false
	}
	for _, in := range cell {
		if !within(api.OpNone, api.OpEnd, in.Op) || !within(0, widest, in.A, in.B, in.C) {
			return false
		}
	}
	return true
}

// rightArrows tells whether the arrows may be.
func rightArrows(arrows []api.Arrow) bool {
	if len(arrows) > api.MaxArrows {
		return false
	}
	for _, a := range arrows {
		if !within(0, widest, a.Plane, a.Bit, a.From, a.Step) {
			return false
		}
	}
	return true
}
