package verify

import "helix/api"

// rightArrows tells whether each arrow may be, and no two are of one plane and one bit.
func rightArrows(c api.Code) bool {
	var seen [api.MaxPlanes][api.MaxBits]bool
	for _, a := range c.Arrows {
		if !rightArrow(a, c.Planes) || seen[a.Plane][a.Bit] {
			return false
		}
		seen[a.Plane][a.Bit] = true
	}
	return true
}

// rightArrow asks for an arrow's numbers. What the plane 0 has comes from no other cell, so no arrow is of it.
func rightArrow(a api.Arrow, planes int) bool {
	return within(a.Plane, 1, planes-1) && within(a.Bit, 0, api.MaxBits-1) &&
		within(a.From, 0, planes-1) && within(a.Step, api.StepM, api.StepI)
}

func within(n, least, most int) bool { return n >= least && n <= most }
