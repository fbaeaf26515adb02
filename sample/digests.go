package sample

import (
	"slices"

	"barrow/api"
	"barrow/past"
)

// SameDigest: one digest as it stands, where nil and empty are one.
func SameDigest(a, b api.Digest) bool {
	return SamePast(a.Heard, b.Heard) && SamePast(a.Live, b.Live)
}

// EdgeDigests: digests in form, at their bounds.
func EdgeDigests() []api.Digest {
	most, last := Past(slices.Repeat([]int{api.MaxNum}, 16)), Past(nil, Span(15, api.MaxNum, api.MaxNum))
	next := Past(nil, Span(0, 2, 2))
	return []api.Digest{
		{}, {Heard: Past([]int{}), Live: Past([]int{})}, {Heard: Past([]int{1})}, {Heard: Past([]int{1}), Live: Past([]int{1})}, {Heard: next, Live: next}, {Heard: Past([]int{2}), Live: next}, {Heard: Past([]int{2, 1}), Live: Past([]int{0, 1})},
		{Heard: most}, {Heard: most, Live: most}, {Heard: most, Live: last}, {Heard: last, Live: last}, {Heard: last}, {Heard: most, Live: Past(nil, Span(0, 2, api.MaxNum))}, {Heard: Past([]int{1}, Span(0, 3, 5)), Live: Past([]int{1}, Span(0, 4, 4))},
	}
}

// Digests: digests in form, edges and thrown ones, of the dots of the other samples.
func Digests(roll Roll, count int) []api.Digest {
	all := EdgeDigests()
	for range count {
		heard := looseNorm(roll)
		all = append(all, api.Digest{Heard: heard, Live: past.Meet(heard, looseNorm(roll))})
	}
	return all
}

// WrongDigests: digests that aren't in form, by one of their pasts, or by both together.
func WrongDigests() []api.Digest {
	most, next := Past(slices.Repeat([]int{api.MaxNum}, 16)), Past(nil, Span(0, 2, 2))
	all := []api.Digest{
		{Heard: Past([]int{1}), Live: Past([]int{2})}, {Live: Past([]int{1})}, {Live: most}, {Heard: next, Live: Past([]int{1})}, {Heard: next, Live: Past([]int{2})}, {Heard: Past([]int{1}), Live: next}, {Heard: Past([]int{9}), Live: Past([]int{0, 1})}, {Heard: Past([]int{0, 9}), Live: Past([]int{1})}, {Heard: Past([]int{9}), Live: Past(nil, Span(1, 3, 3))},
		{Heard: Past([]int{1}, Span(0, 3, 5)), Live: Past([]int{5})}, {Heard: Past([]int{1}, Span(0, 3, 5)), Live: Past(nil, Span(0, 3, 6))}, {Heard: Past([]int{1}, Span(0, 3, 5)), Live: Past(nil, Span(0, 2, 3))}, {Heard: Past([]int{api.MaxNum - 1}), Live: Past([]int{api.MaxNum})}, {Heard: Past(slices.Repeat([]int{api.MaxNum}, 15)), Live: most},
	}
	for _, p := range WrongPasts() {
		all = append(all, api.Digest{Heard: p}, api.Digest{Heard: p, Live: p}, api.Digest{Live: p}, api.Digest{Heard: most, Live: p}, api.Digest{Heard: p, Live: past.Norm(p)})
	}
	return all
}
