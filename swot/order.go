package swot

import (
	"slices"

	"barrow/api"
	"barrow/keep"
)

// Within: does b know all that a knows?
func Within(a, b api.Swot) (bool, api.Errno) {
	both, err := Join(a, b)
	return err == api.OK && same(both, b), err
}

// Order: how a stands to b (api.Same, Before, After, Apart).
func Order(a, b api.Swot) (int, api.Errno) {
	both, err := Join(a, b)
	if err != api.OK {
		return 0, err
	}
	// Either way round it is the same joining.
	below, above := same(both, b), same(both, a)
	switch {
	case below && above:
		return api.Same, api.OK
	case below:
		return api.Before, api.OK
	case above:
		return api.After, api.OK
	}
	return api.Apart, api.OK
}

// same is for states in form, whose parts each have one form alone, but that an empty list may be nil.
func same(a, b api.Swot) bool {
	return slices.Equal(a.Live, b.Live) && samePast(a.Past, b.Past) && slices.EqualFunc(a.Defer, b.Defer, sameRecord)
}

func samePast(a, b api.Past) bool {
	return slices.Equal(a.Vec, b.Vec) && slices.Equal(a.Cloud, b.Cloud)
}

func sameRecord(a, b api.Record) bool { return keep.Compare(a, b) == 0 }
