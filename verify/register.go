package verify

import "helix/api"

// Where a register's number comes from.
const (
	nothing = iota
	start
	load
	other
)

// origin is one of these; of a load which plane it is of, by which step.
type origin struct{ kind, plane, step int }

// way is one by which another register's number may have come to a register.
type way struct {
	bit  int
	from origin
}

// register is what is known of one.
type register struct {
	written bool
	origin  origin
	met     bool // it is not fresh any more
	ways    []way
	weight  int
}

// meet adds a way to the register. The other one is handed over by value, as it stood ahead, since it may be the same.
func (r *register) meet(with register, bit int) {
	from := with.origin
	if with.met {
		from = origin{kind: other}
	}
	r.met = true
	r.ways = append(r.ways, way{bit, from})
	r.weight = max(r.weight, with.weight)
}

// begins tells whether the number can't have come from a cell: only from a start, if it is there at all.
func (r *register) begins() bool {
	for _, w := range r.ways {
		if !w.from.begins() {
			return false
		}
	}
	return r.origin.begins()
}

func (o origin) begins() bool { return o.kind == nothing || o.kind == start }

// comesBy tells whether the number can have come by arrows of a plane alone.
func (r *register) comesBy(plane int, arrows []api.Arrow) bool {
	if r.origin.kind != nothing {
		return false
	}
ways:
	for _, w := range r.ways {
		for _, a := range arrows {
			if a.Plane == plane && w.follows(a) {
				continue ways
			}
		}
		return false
	}
	return true
}

// follows tells whether the way is the one that an arrow tells of.
func (w way) follows(a api.Arrow) bool {
	return w.from == origin{kind: load, plane: a.From, step: a.Step} && w.bit == a.Bit
}
