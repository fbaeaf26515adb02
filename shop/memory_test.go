package shop_test

import (
	"testing"

	"barrow/api"
	"barrow/memcheck"
	"barrow/shop"
)

func TestTellChangesNothing(t *testing.T) { // R7
	room := []api.Line{{Sku: "A", Qty: 1, Parts: 1}, {Sku: "B", Qty: 2, Parts: 2}, {Sku: "SPARE", Qty: 3, Parts: 3}}
	a := api.Answer{Lines: room[:2]}
	given := []memcheck.Region{memcheck.Lines(a.Lines)}
	text := shop.Tell(1, a)
	if memcheck.Changed(given, nil) {
		t.Errorf("Tell changes the lines, or the room behind them")
	}
	memcheck.Changed(nil, given)
	if text != "1 ok\n  A 1\n  B 2 in 2\n" {
		t.Errorf("a write into the lines changes what was told: %q", text)
	}
}

// Nothing is kept from call to call.
func TestCallsLeaveNothingBehind(t *testing.T) { // R7
	for _, text := range texts(5) {
		run, final, sizes := shop.Run(text), shop.Final(text), shop.Sizes(text)
		for _, other := range []string{runs()[0][0], "", text} {
			shop.Run(other)
			shop.Final(other)
			shop.Sizes(other)
		}
		if shop.Run(text) != run || shop.Final(text) != final || shop.Sizes(text) != sizes {
			t.Errorf("%q answers otherwise the second time", text)
		}
	}
}
