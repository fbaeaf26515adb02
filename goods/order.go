package goods

import (
	"cmp"
	"slices"
	"strings"
)

// Compare: -1, 0 or 1, the natural order of two texts.
func Compare(a, b string) int {
	x, y := a, b
	for x != "" && y != "" {
		p, q := firstPiece(x), firstPiece(y)
		if c := comparePieces(p, q); c != 0 {
			return c
		}
		x, y = x[len(p):], y[len(q):]
	}
	// At least one has no piece left: the lengths tell which one has.
	if c := cmp.Compare(len(x), len(y)); c != 0 {
		return c
	}
	// Only zeros in front can still part them.
	return strings.Compare(a, b)
}

// firstPiece is for texts that aren't empty.
func firstPiece(text string) string {
	n := 0
	for n < len(text) && isDigit(text[n]) {
		n++
	}
	return text[:max(n, 1)]
}

func comparePieces(p, q string) int {
	if isDigit(p[0]) && isDigit(q[0]) {
		return compareNumbers(p, q)
	}
	return cmp.Compare(p[0], q[0])
}

// compareNumbers works on the digits: the numbers may be of any size.
func compareNumbers(p, q string) int {
	p, q = strings.TrimLeft(p, "0"), strings.TrimLeft(q, "0")
	if c := cmp.Compare(len(p), len(q)); c != 0 {
		return c
	}
	return strings.Compare(p, q)
}

// Sort: the texts in natural order, none twice.
func Sort(skus []string) []string {
	out := slices.Clone(skus)
	slices.SortFunc(out, Compare)
	return slices.Compact(out)
}
