package path

import "helix/api"

// greatest is the greatest cost that is told.
const greatest = 1 << 61

// areNumbers tells whether each number of gaps may stand in a scheme.
func areNumbers(gaps []api.Gap) bool {
	for _, g := range gaps {
		if min(g.Open, g.Extend) < 0 || max(g.Open, g.Extend) > api.MaxConst {
			return false
		}
	}
	return true
}

// leastLine is the least cost of k columns by all gaps' lines; above the greatest one, if all of them are.
func leastLine(k int, gaps []api.Gap) int {
	least := greatest + 1
	for _, g := range gaps {
		least = min(least, line(k, g))
	}
	return least
}

// line is the cost of k columns by one gap's line. What is above the greatest cost is told as one above it, for a product beyond 64 bits would go round.
func line(k int, g api.Gap) int {
	if g.Extend > (greatest-g.Open)/k {
		return greatest + 1
	}
	return g.Open + g.Extend*k
}
