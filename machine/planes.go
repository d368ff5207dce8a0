package machine

// slot is what a register has, or a plane at a cell: a number or nothing, and a mask.
type slot struct {
	has    bool
	mask   uint16
	number int
}

// planes hold a slot each for each cell of two sequences; a cell's slots stand side by side.
type planes struct {
	many, x, y int
	slots      []slot
}

// planesOf are so many, of sequences so long, with nothing at any cell.
func planesOf(many, x, y int) planes {
	return planes{many: many, x: x, y: y, slots: make([]slot, many*(x+1)*(y+1))}
}

// Size tells the sequences' lengths.
func (p *planes) Size() (int, int) { return p.x, p.y }

// Planes is how many there are.
func (p *planes) Planes() int { return p.many }

// Value is that of a plane at a cell; false: it has none.
func (p *planes) Value(plane, i, j int) (int, bool) {
	s := p.at(plane, i, j)
	return s.number, s.has
}

// Mask has the bits of the ways by which it came.
func (p *planes) Mask(plane, i, j int) int { return int(p.at(plane, i, j).mask) }

// at is what a plane has at a cell: nothing, if there is no such plane or cell.
func (p *planes) at(plane, i, j int) slot {
	if !below(plane, p.many) || !below(i, p.x+1) || !below(j, p.y+1) {
		return slot{}
	}
	return p.slots[p.place(plane, i, j)]
}

// keep gives a plane what it has at a cell. Of nothing no mask stays, since no way has led to it.
func (p *planes) keep(plane, i, j int, s slot) {
	if !s.has {
		s = slot{}
	}
	p.slots[p.place(plane, i, j)] = s
}

func (p *planes) place(plane, i, j int) int { return (i*(p.y+1)+j)*p.many + plane }

func below(n, many int) bool { return n >= 0 && n < many }
