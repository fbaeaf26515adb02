package swot_test

import (
	"testing"

	"barrow/api"
	"barrow/lines"
	"barrow/past"
	"barrow/sample"
	"barrow/swot"
)

func checkOrder(t *testing.T, a, b api.Swot, want int, wantErr api.Errno) {
	t.Helper()
	if got, err := swot.Order(a, b); got != want || err != wantErr {
		t.Errorf("Order(%v, %v) = %d, %d, want %d, %d", a, b, got, err, want, wantErr)
	}
	within := wantErr == api.OK && (want == api.Same || want == api.Before)
	if got, err := swot.Within(a, b); got != within || err != wantErr {
		t.Errorf("Within(%v, %v) = %t, %d, want %t, %d", a, b, got, err, within, wantErr)
	}
}

func TestOrder(t *testing.T) { // P11.4
	orders, clashes := [4]int{}, 0
	for _, all := range [][]api.Swot{mixed(40), alike(t, 40)} {
		for _, a := range all {
			for _, b := range all {
				if clash(a, b) {
					checkOrder(t, a, b, 0, api.ErrClash)
					clashes++
					continue
				}
				checkOrder(t, a, b, standing(a, b), api.OK)
				orders[standing(a, b)]++
			}
		}
	}
	for order, count := range orders {
		if count < 50 || clashes < 50 {
			t.Errorf("only %d pairs stand as %d says, and %d clash", count, order, clashes)
		}
	}
}

func TestOrdersExamples(t *testing.T) { // P11.4
	five := one(en(0, 1, "A", 5))
	waits := api.Swot{Past: pa([]int{1}), Defer: rs(re("A", []int{2}))}
	for _, c := range []struct {
		a, b api.Swot
		want int
	}{
		{five, gone(1), api.Before}, {five, one(en(1, 1, "A", 5)), api.Apart}, {five, five, api.Same}, {api.Swot{}, api.Swot{}, api.Same}, {api.Swot{}, five, api.Before}, {gone(1), gone(2), api.Before}, {gone(1), gone(0, 1), api.Apart},
		// What one has removed, the other can't have live and know more by it.
		{api.Swot{Live: five.Live, Past: pa([]int{2})}, gone(1), api.Apart}, {api.Swot{Live: five.Live, Past: pa([]int{2})}, gone(2), api.Before}, {five, api.Swot{Live: five.Live, Past: pa([]int{2})}, api.Before},
		// A record is known by what waits, or by all of its dots.
		{waiting("A", 2), waits, api.Before}, {waiting("A", 2), gone(2), api.Before}, {waits, gone(2), api.Before}, {waits, gone(1), api.After}, {waiting("A", 1), waiting("A", 2), api.Apart}, {waiting("A", 1), waiting("", 1), api.Apart}, {five, waits, api.Before}, {waiting("A", 1), five, api.Apart}, {waiting("A", 1), one(en(0, 1, "B", 5)), api.Before}, {waiting("A", 2), five, api.Apart},
		{api.Swot{Past: pa([]int{}), Live: es()}, api.Swot{}, api.Same},
	} {
		checkOrder(t, c.a, c.b, c.want, api.OK)
		back := map[int]int{api.Before: api.After, api.After: api.Before, api.Apart: api.Apart}
		checkOrder(t, c.b, c.a, back[c.want], api.OK)
	}
	checkOrder(t, five, one(en(0, 1, "A", 6)), 0, api.ErrClash)
	checkOrder(t, five, one(en(0, 1, "B", 5)), 0, api.ErrClash)
	// Nothing that is live in one alone clashes.
	checkOrder(t, gone(1), one(en(0, 1, "B", 5)), api.After, api.OK)
}

func TestOrderOutOfForm(t *testing.T) { // P11.4
	for _, wrong := range sample.WrongSwots() {
		for _, other := range []api.Swot{{}, one(en(0, 1, "A", 6)), waiting("A", 2), wrong} {
			checkOrder(t, wrong, other, 0, api.ErrForm)
			checkOrder(t, other, wrong, 0, api.ErrForm)
		}
	}
	// They clash too.
	checkOrder(t, one(en(0, 1, "A", 5)), api.Swot{Live: es(en(0, 1, "A", 6))}, 0, api.ErrForm)
	checkOrder(t, api.Swot{Live: es(en(0, 1, "A", 6)), Past: pa([]int{1}), Defer: rs(re("B", []int{1}))}, one(en(0, 1, "A", 5)), 0, api.ErrForm)
}

func within(t *testing.T, a, b api.Swot) bool {
	t.Helper()
	got, err := swot.Within(a, b)
	if err != api.OK {
		t.Errorf("Within(%v, %v) = %t, %d", a, b, got, err)
	}
	return got
}

func TestWithinIsAnOrder(t *testing.T) { // P11.4
	all := alike(t, 30)
	var below [][]bool
	for i, a := range all {
		below = append(below, make([]bool, len(all)))
		for j, b := range all {
			below[i][j] = within(t, a, b)
			// Both are within what they are joined to.
			if !within(t, a, joined(t, a, b)) {
				t.Errorf("%v isn't within its join with %v", a, b)
			}
		}
	}
	chains := 0
	for i, a := range all {
		for j, b := range all {
			if below[i][j] && below[j][i] && !same(a, b) {
				t.Errorf("%v and %v are within one another", a, b)
			}
			for k, c := range all {
				if below[i][j] && below[j][k] && !below[i][k] {
					t.Errorf("%v is within %v, and that within %v", a, b, c)
				}
				if i != j && j != k && below[i][j] && below[j][k] {
					chains++
				}
			}
		}
	}
	if chains < 100 {
		t.Errorf("only %d chains of three", chains)
	}
}

func TestAJoinIsTheLeastThatBothAreWithin(t *testing.T) { // P11.3, P11.4
	all := alike(t, 14)
	above := 0
	for _, c := range all {
		below := sample.Those(all, func(s api.Swot) bool { return within(t, s, c) })
		for _, a := range below {
			for _, b := range below {
				above++
				j := joined(t, a, b)
				if !within(t, j, c) {
					t.Errorf("Join(%v, %v) = %v isn't within %v, and both are", a, b, j, c)
				}
			}
		}
	}
	if above < 100 {
		t.Errorf("only %d that two are within", above)
	}
}

func TestVeryMany(t *testing.T) { // P11.2, P11.4
	var a, b api.Swot
	for i := 1; i <= 6000; i++ {
		a.Live = append(a.Live, en(2, 2*i, "A", 1))
		b.Live = append(b.Live, en(2, 3*i, "A", 1))
		if i <= 200 {
			a.Defer = append(a.Defer, re("A", []int{i}))
			b.Defer = append(b.Defer, re("B", []int{0, i}))
		}
	}
	a.Past, _ = lines.Dots(a.Live)
	b.Past, _ = lines.Dots(b.Live)
	// What b has live of these is gone in a, but for what is live there too.
	a.Past = past.Join(a.Past, pa(nil, sp(2, 9000, 15000)))
	j := joined(t, a, b)
	want := 0
	for n := 1; n <= 18000; n++ {
		inA, inB := n%2 == 0 && n <= 12000, n%3 == 0
		goneInA := !inA && 9000 <= n && n <= 15000
		if inA || inB && !goneInA {
			want++
		}
	}
	if len(j.Live) != want || len(j.Defer) != 400 || !inForm(j) {
		t.Errorf("the join has %d live entries, want %d, and %d records", len(j.Live), want, len(j.Defer))
	}
	checkOrder(t, a, j, api.Before, api.OK)
	checkOrder(t, j, b, api.After, api.OK)
	checkOrder(t, a, b, api.Apart, api.OK)
}
