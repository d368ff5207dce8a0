package code

import (
	"strconv"
	"strings"

	"helix/api"
)

// listed has a line for each instruction.
func listed(cell ...api.Instr) string {
	var b strings.Builder
	for _, in := range cell {
		b.WriteString(line(in) + "\n")
	}
	return b.String()
}

// line is an instruction in words.
func line(in api.Instr) string {
	a, b := strconv.Itoa(in.A), strconv.Itoa(in.B)
	switch in.Op {
	case api.OpNone:
		return "none r" + a
	case api.OpStart:
		return "start r" + a + " c" + b + " " + where(in.C)
	case api.OpLoad:
		return "load r" + a + " p" + b + " " + step(in.C)
	case api.OpAdd:
		return "add r" + a + " c" + b
	case api.OpTable:
		return "table r" + a
	case api.OpMeet:
		return "meet r" + a + " r" + b + " b" + strconv.Itoa(in.C)
	case api.OpKeep:
		return "keep p" + a + " r" + b
	default:
		return "end p" + a + " c" + b + " " + where(in.C)
	}
}

// where is which cells an instruction is for, in words.
func where(n int) string {
	switch n {
	case api.WhereAny:
		return "any"
	case api.WhereRow:
		return "row"
	case api.WhereColumn:
		return "column"
	case api.WhereCorner:
		return "corner"
	}
	return strconv.Itoa(n)
}

// step is a column in words.
func step(n int) string {
	switch n {
	case api.StepNone:
		return "here"
	case api.StepM:
		return "M"
	case api.StepD:
		return "D"
	case api.StepI:
		return "I"
	}
	return strconv.Itoa(n)
}
