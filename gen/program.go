package gen

import (
	"slices"

	"helix/api"
)

// program is what instructions are laid into, with the constants and the arrows that they lean on.
type program struct {
	cell   []api.Instr
	consts []int
	arrows []api.Arrow
}

// lay lays instructions, one behind the other.
func (p *program) lay(l ...api.Instr) { p.cell = append(p.cell, l...) }

// constant is the place of a number. Each number stands there once, so that there are never too many of them.
func (p *program) constant(n int) int {
	if !slices.Contains(p.consts, n) {
		p.consts = append(p.consts, n)
	}
	return slices.Index(p.consts, n)
}
