package grid

import (
	"skirmish/api"
)

// Line answers the cells of the line from a to b; none if one of them can't be measured.
func Line(a, b api.Cell) []api.Cell {
	if !isMeasured(a) || !isMeasured(b) {
		return nil
	}
	n := max(apart(a.X, b.X), apart(a.Y, b.Y))
	if n == 0 {
		return []api.Cell{a}
	}
	line := make([]api.Cell, n+1)
	for k := range line {
		line[k] = api.Cell{X: between(a.X, b.X, k, n), Y: between(a.Y, b.Y, k, n)}
	}
	return line
}

// between answers the whole number nearest to the place k of n steps on the way from a to b; of two as near, the greater.
func between(a, b, k, n int) int {
	return a + floorDiv(2*k*(b-a)+n, 2*n)
}

// floorDiv answers a / b, rounded down, b above 0. (Go's own / rounds towards 0.)
func floorDiv(a, b int) int {
	q := a / b
	if a%b < 0 {
		q--
	}
	return q
}

// Sees answers whether a sees b on m; false if m isn't formed.
func Sees(m api.Map, a, b api.Cell) bool {
	if !Inside(m, a) || !holds(m, b) {
		return false
	}
	// Which of the two is the lesser needs no asking: halves are rounded up from either end, so that the line back has the same cells.
	line := Line(a, b)
	for k := 1; k < len(line)-1; k++ {
		if isRock(m, line[k]) {
			return false
		}
	}
	return true
}
