package sample

import "barrow/api"

// ThrownAct: an act, now and then one that is refused.
func ThrownAct(roll Roll) api.Act {
	a := api.Act{Kind: 1 + roll(6), Sku: []string{"A", "B", "C", "A-1", "A", "A"}[roll(6)], Qty: 1 + roll(9)}
	switch roll(12) {
	case 0:
		a.Kind = []int{0, 7, -1, 1 << 40}[roll(4)]
	case 1:
		a.Sku = []string{"", "a", "-", "D", "E", "F"}[roll(6)]
	case 2:
		a.Kind, a.Qty = 1+roll(2), []int{0, -1, api.MaxQty, api.MaxQty + 1, api.MaxQty - 5}[roll(5)]
	case 3:
		a.Kind = api.ActClear
	}
	if a.Kind == api.ActRemoveTo || a.Kind == api.ActClearTo {
		a.Past = []api.Past{{}, {Vec: []int{1}}, {Vec: []int{0, 2}}, {Vec: []int{0}}, {Vec: []int{2, 3, 1}}, {Cloud: []api.Span{{Rep: 0, Lo: 3, Hi: 4}}}}[roll(6)]
	}
	return a
}
