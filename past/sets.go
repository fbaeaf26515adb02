package past

import (
	"cmp"
	"slices"

	"barrow/api"
	"barrow/span"
)

// Join: what is in any.
func Join(ps ...api.Past) api.Past { return setsOf(ps...).canonical() }

// Meet: what is in both.
func Meet(a, b api.Past) api.Past { return pairwise(a, b, span.Meet) }

// Minus: what is in a and not in b.
func Minus(a, b api.Past) api.Past { return pairwise(a, b, span.Minus) }

// pairwise puts the two sets together replica by replica.
func pairwise(a, b api.Past, together func(x, y []api.Run) []api.Run) api.Past {
	x, y := setsOf(a), setsOf(b)
	for rep := range api.MaxReps {
		x[rep] = together(x[rep], y[rep])
	}
	return x.canonical()
}

// Within: is all of a in b?
func Within(a, b api.Past) bool {
	x, y := setsOf(a), setsOf(b)
	for rep := range api.MaxReps {
		if !span.Within(x[rep], y[rep]) {
			return false
		}
	}
	return true
}

// Order: how a stands to b as sets (api.Same, Before, After, Apart).
func Order(a, b api.Past) int {
	x, y := setsOf(a), setsOf(b)
	order := api.Same
	for rep := range api.MaxReps {
		// The four orders are two bits: Before, b has more; After, a has more. Apart is both of them.
		order |= span.Order(x[rep], y[rep])
	}
	return order
}

// Compare: -1, 0 or 1, a total order of contexts.
func Compare(a, b api.Past) int {
	x, y := formed(a), formed(b)
	// A vector in form that goes on has a number above 0 there, so that the one at its end comes first here too.
	if by := slices.Compare(x.Vec, y.Vec); by != 0 {
		return by
	}
	return slices.CompareFunc(x.Cloud, y.Cloud, compareSpans)
}

// formed: Norm, for one who only looks: a past that is in form already needs no copy.
func formed(p api.Past) api.Past {
	if IsNorm(p) {
		return p
	}
	return Norm(p)
}

func compareSpans(x, y api.Span) int {
	return cmp.Or(cmp.Compare(x.Rep, y.Rep), cmp.Compare(x.Lo, y.Lo), cmp.Compare(x.Hi, y.Hi))
}
