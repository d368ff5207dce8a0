package trace_test

import (
	"strings"
	"testing"
)

// M is ahead of D ahead of I, whichever bits tell them.
func TestSteps(t *testing.T) {
	for _, ways := range []string{"0M 0D 0I 1M 1D 1I", "1I 1D 1M 0I 0D 0M", "0D@15 1D@0 1I@7 0M@14 0I@1 1M@8"} {
		c := drawn(t, "corner", "1: "+ways, "end p1 c9 corner")
		for _, x := range []struct {
			rows, columns int
			path          string
		}{
			{1, 1, "M"}, {1, 0, "D"}, {0, 1, "I"}, {3, 3, "MMM"}, {3, 1, "DDM"}, {1, 3, "IIM"}, {5, 3, "DDMMM"}, {3, 5, "IIMMM"}, {4, 0, "DDDD"}, {0, 4, "IIII"},
		} {
			tellsOf(t, ways, c, x.rows, x.columns, 0, 0, 0, x.path)
		}
	}
	for _, ways := range []string{"0D 0I 1D 1I", "1I 1D 0I 0D", "0I@15 1D@0 0D@14 1I@1"} {
		c := drawn(t, "corner", "1: "+ways, "end p1 c9 corner")
		tellsOf(t, ways, c, 2, 2, 0, 0, 0, "IIDD")
		tellsOf(t, ways, c, 3, 1, 0, 0, 0, "IDDD")
	}
	tellsOf(t, "M and I", drawn(t, "corner", "1: 0M 0I 1M 1I", "end p1 c9 corner"), 2, 4, 0, 0, 0, "IIMM")
	tellsOf(t, "M and D", drawn(t, "corner", "1: 0D 0M 1D 1M", "end p1 c9 corner"), 4, 2, 0, 0, 0, "DDMM")
}

// The first unlike column from the end decides, not what stands ahead of it, nor how many columns there are.
func TestReadFromTheEnd(t *testing.T) {
	c := drawn(t, "corner", "1: 0M\n2: 1I\n3: 0I 3I\n4: 3D", "end p2 c9 corner; end p4 c9 corner")
	tellsOf(t, "IID ahead of MI", c, 1, 2, 0, 0, 0, "IID")
	c = drawn(t, "corner", "1: 0M 1M\n2: 1D\n3: 0D 3D\n4: 3I\n5: 4M", "end p2 c9 corner; end p5 c9 corner")
	tellsOf(t, "DDIM ahead of MMD", c, 3, 2, 0, 0, 0, "DDIM")
}

// A path that has begun is ahead of one that goes on.
func TestBegun(t *testing.T) {
	tellsOf(t, "an end of both planes", drawn(t, "any", "1: 0M 1M", "end p1 c9 corner; end p0 c9 corner"), 3, 3, 0, 3, 3, "")
	tellsOf(t, "an end of plane 1", drawn(t, "any", "1: 0M 1M", "end p1 c9 corner"), 3, 3, 0, 2, 2, "M")
	tellsOf(t, "an end of plane 1, by the other bit", drawn(t, "any", "1: 1M 0M", "end p1 c9 corner"), 3, 3, 0, 2, 2, "M")
	tellsOf(t, "a plane that goes on with more", drawn(t, "any", "1: 0M+1 1M+1", "end p1 c9 corner"), 3, 3, 3, 0, 0, "MMM")
	tellsOf(t, "of two planes the one that has begun", drawn(t, "any", "1: 2M\n2: 0M 1M\n3: 0M", "end p1 c9 corner; end p3 c9 corner"), 4, 4, 0, 3, 3, "M")
}

// A column decides ahead of a beginning: M, which goes on, is ahead of D, which begins.
func TestGoesOnByALesserStep(t *testing.T) {
	tellsOf(t, "M as far as it goes", drawn(t, "any", "1: 0D 1M", "end p1 c9 corner"), 4, 4, 0, 0, 1, "DMMM")
	tellsOf(t, "D as far as it goes", drawn(t, "any", "1: 0I 1D", "end p1 c9 corner"), 3, 4, 0, 0, 3, "IDDD")
}

// Bits of plane 0's mask are no ways: a path begins there all the same.
func TestMaskOfPlane0(t *testing.T) {
	c := drawn(t, "any", "1: 0M 1M", "end p1 c9 corner; end p0 c9 corner")
	c.Cell = append(cell(t, "start r0 c9 any; start r1 c9 any; meet r0 r1 b0; meet r0 r1 b1; keep p0 r0"), c.Cell[2:]...)
	if mask := ran(t, c, nil, nil).Mask(0, 0, 0); mask != 3 {
		t.Fatal("the test's own code: plane 0 has the mask", mask)
	}
	tellsOf(t, "plane 0 with a mask", c, 2, 2, 0, 2, 2, "")
	c.Cell = c.Cell[:len(c.Cell)-1]
	tellsOf(t, "behind plane 0 with a mask", c, 2, 2, 0, 1, 1, "M")
}

// swapped is a text in which two planes have each other's numbers.
func swapped(s, a, b string) string { return strings.NewReplacer(a, b, b, a).Replace(s) }

// All planes of the set are gone on with: whichever of two has the lesser column further back, it is found.
func TestAllPlanesOfTheSet(t *testing.T) {
	for _, x := range []struct {
		what, planes, ends string
		size               int
		path               string
	}{
		{"two ends", "3: 0I\n4: 0D\n5: 3D\n6: 4I\n1: 5M\n2: 6M", "12", 2, "IDM"},
		{"two ways of one plane", "3: 0I\n4: 0D\n5: 3D\n6: 4I\n1: 5M 6M\n2: 2M", "1", 2, "IDM"},
		{"three columns back", "3: 0I\n4: 0D\n5: 3D\n6: 4I\n7: 5M\n8: 6M\n1: 7M\n2: 8M", "12", 3, "IDMM"},
		{"from one plane at last", "3: 0M\n4: 0M\n5: 3I\n6: 4D\n7: 5D\n8: 6I\n1: 7M 8M\n2: 1M", "2", 4, "MIDMM"},
	} {
		planes, ends := x.planes, x.ends
		for _, pair := range []string{"12", "34", "56", "12", "56", "34"} {
			rest := ""
			for _, plane := range ends {
				rest += "end p" + string(plane) + " c9 corner;"
			}
			tellsOf(t, x.what+": "+planes, drawn(t, "corner", planes, rest), x.size, x.size, 0, 0, 0, x.path)
			planes, ends = swapped(planes, pair[:1], pair[1:]), swapped(ends, pair[:1], pair[1:])
		}
	}
}

// Only planes that the ways with the least step come from are in the next set.
func TestOtherStepsAreLeft(t *testing.T) {
	c := drawn(t, "any", "2: 0I\n3: 0M\n1: 2M 3D", "end p1 c9 corner")
	tellsOf(t, "M from plane 2, D from plane 3", c, 2, 2, 0, 1, 0, "IM")
	c = drawn(t, "any", "2: 0I\n3: 0M\n1: 3D 3I 2M 3D 3I", "end p1 c9 corner")
	tellsOf(t, "M between others", c, 2, 2, 0, 1, 0, "IM")
	c = drawn(t, "any", "2: 0I\n3: 0M\n1: 3I 2D 3I", "end p1 c9 corner")
	tellsOf(t, "D from plane 2, I from plane 3", c, 2, 2, 0, 1, 1, "ID")
}

// What planes out of the set have at a cell is no way, nor is a bit that is not set, nor another plane's.
func TestOtherPlanesAndBits(t *testing.T) {
	tellsOf(t, "a plane that has no end", drawn(t, "any", "1: 2D\n2: 0M", "end p1 c9 corner"), 2, 2, 0, 0, 1, "MD")
	tellsOf(t, "a plane whose end is less", drawn(t, "any", "1: 2D\n2: 0M", "end p1 c9 corner; end p2 c8 corner"), 2, 2, 0, 0, 1, "MD")
	tellsOf(t, "a plane with an end elsewhere", drawn(t, "any", "1: 0M\n2: 0D", "end p1 c9 row; end p2 c9 column"), 2, 2, 0, 0, 2, "D")
	tellsOf(t, "a way that is less", drawn(t, "any", "1: 0M+-1 0D", "end p1 c9 corner"), 2, 2, 0, 1, 2, "D")
	tellsOf(t, "another plane's bit", drawn(t, "any", "1: 0M+-1@0 0I@1\n2: 0D@0", "end p1 c9 corner; end p2 c9 corner"), 2, 2, 0, 1, 2, "D")
	tellsOf(t, "bits side by side", drawn(t, "any", "1: 0M+-1@14 0I@15 0D+-2@13", "end p1 c9 corner"), 2, 2, 0, 2, 1, "I")
}

// All ten planes, and the last bit.
func TestLastPlaneAndBit(t *testing.T) {
	planes := "1: 0M@15"
	for p := '2'; p <= '9'; p++ {
		planes += "\n" + string(p) + ": " + string(p-1) + string("DIM"[p%3]) + "@15"
	}
	tellsOf(t, "nine columns", drawn(t, "corner", planes, "end p9 c9 any"), 9, 9, 0, 0, 0, "MMDIMDIMD")
	tellsOf(t, "one column", drawn(t, "corner", "1: 0M\n2: 0M\n3: 0M\n4: 0M\n5: 0M\n6: 0M\n7: 0M\n8: 0M\n9: 1M 2M 3M 4M 5M 6M 7M 8M 9M 9D 8D 1I@15 9I@14 0I@13 0D@12 0M@11",
		"end p9 c9 corner; end p1 c9 corner; end p8 c9 corner"), 1, 1, 0, 0, 0, "M")
}

// As long as may be: along a side, along both, through the middle.
func TestLongest(t *testing.T) {
	const all, gaps = "1: 0M 0D 0I 1M 1D 1I", "1: 0D 0I 1D 1I"
	for _, x := range []struct {
		planes        string
		rows, columns int
		path          string
	}{
		{all, 65536, 0, strings.Repeat("D", 65536)},
		{all, 0, 65536, strings.Repeat("I", 65536)},
		{all, 65535, 15, strings.Repeat("D", 65520) + strings.Repeat("M", 15)},
		{all, 15, 65535, strings.Repeat("I", 65520) + strings.Repeat("M", 15)},
		{all, 1023, 1023, strings.Repeat("M", 1023)},
		{gaps, 65535, 15, strings.Repeat("I", 15) + strings.Repeat("D", 65535)},
		{gaps, 15, 65535, strings.Repeat("I", 65535) + strings.Repeat("D", 15)},
		{gaps, 1023, 1023, strings.Repeat("I", 1023) + strings.Repeat("D", 1023)},
	} {
		tellsOf(t, "long", drawn(t, "corner", x.planes, "end p1 c9 corner"), x.rows, x.columns, 0, 0, 0, x.path)
	}
}
