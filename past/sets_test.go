package past_test

import (
	"slices"
	"testing"

	"barrow/api"
	"barrow/past"
)

func TestJoinMeetMinus(t *testing.T) { // P4.3
	pairs(120, func(a, b api.Past) {
		either := func(d api.Dot) bool { return member(a, d) || member(b, d) }
		if got, want := past.Join(a, b), form(members(either, a, b)); !same(got, want) {
			t.Errorf("Join(%v, %v) = %v, want %v", a, b, got, want)
		}
		both := func(d api.Dot) bool { return member(a, d) && member(b, d) }
		if got, want := past.Meet(a, b), form(members(both, a, b)); !same(got, want) {
			t.Errorf("Meet(%v, %v) = %v, want %v", a, b, got, want)
		}
		alone := func(d api.Dot) bool { return member(a, d) && !member(b, d) }
		if got, want := past.Minus(a, b), form(members(alone, a, b)); !same(got, want) {
			t.Errorf("Minus(%v, %v) = %v, want %v", a, b, got, want)
		}
	})
	p, q := example(), pa([]int{7, 2})
	if got := past.Meet(p, q); !same(got, pa([]int{4}, sp(0, 6, 7), sp(1, 2, 2))) {
		t.Errorf("Meet = %v", got)
	}
	if got := past.Minus(p, q); !same(got, pa(nil, sp(0, 8, 12))) {
		t.Errorf("Minus = %v", got)
	}
	if got := past.Minus(q, p); !same(got, pa([]int{0, 1}, sp(0, 5, 5))) {
		t.Errorf("Minus the other way = %v", got)
	}
}

func TestJoinOfAnyNumber(t *testing.T) { // P4.3
	if got := past.Join(); !same(got, api.Past{}) {
		t.Errorf("Join of none = %v", got)
	}
	all := samples(200)
	for i, p := range all {
		if got := past.Join(p); !same(got, form(set(p))) {
			t.Errorf("Join(%v) = %v", p, got)
		}
		ps := all[i:min(i+4, len(all))]
		inAny := func(d api.Dot) bool {
			return slices.ContainsFunc(ps, func(p api.Past) bool { return member(p, d) })
		}
		if got, want := past.Join(ps...), form(members(inAny, ps...)); !same(got, want) {
			t.Errorf("Join(%v) = %v, want %v", ps, got, want)
		}
	}
}

func TestJoinsLaws(t *testing.T) { // P4.3
	all := samples(10)
	pairs(10, func(a, b api.Past) {
		ab := past.Join(a, b)
		if !same(ab, past.Join(b, a)) {
			t.Errorf("Join of %v and %v isn't commutative", a, b)
		}
		if !same(past.Join(ab, a), ab) || !same(past.Join(a, a), past.Norm(a)) {
			t.Errorf("Join of %v and %v isn't idempotent", a, b)
		}
		if !past.Within(a, ab) || !past.Within(b, ab) {
			t.Errorf("Join(%v, %v) = %v hasn't all", a, b, ab)
		}
		for _, c := range all {
			if !same(past.Join(ab, c), past.Join(a, past.Join(b, c))) || !same(past.Join(ab, c), past.Join(a, b, c)) {
				t.Errorf("Join of %v, %v and %v isn't associative", a, b, c)
			}
			if past.Within(a, c) && past.Within(b, c) && !past.Within(ab, c) {
				t.Errorf("Join(%v, %v) = %v isn't the least: %v", a, b, ab, c)
			}
		}
	})
}

func TestMeetAndMinusArePartsOfTheWhole(t *testing.T) { // P4.3
	pairs(60, func(a, b api.Past) {
		meet, minus := past.Meet(a, b), past.Minus(a, b)
		if !past.Empty(past.Meet(meet, minus)) || !same(past.Join(meet, minus), past.Norm(a)) {
			t.Errorf("%v and %v: Meet %v, Minus %v", a, b, meet, minus)
		}
	})
}

func TestWithinAndOrder(t *testing.T) { // P4.3
	pairs(120, func(a, b api.Past) {
		moreInA := len(members(func(d api.Dot) bool { return member(a, d) && !member(b, d) }, a, b)) > 0
		moreInB := len(members(func(d api.Dot) bool { return member(b, d) && !member(a, d) }, a, b)) > 0
		if got := past.Within(a, b); got == moreInA {
			t.Errorf("Within(%v, %v) = %v", a, b, got)
		}
		want := api.Same
		switch {
		case moreInA && moreInB:
			want = api.Apart
		case moreInA:
			want = api.After
		case moreInB:
			want = api.Before
		}
		if got := past.Order(a, b); got != want {
			t.Errorf("Order(%v, %v) = %d, want %d", a, b, got, want)
		}
	})
	for _, c := range []struct {
		a, b api.Past
		want int
	}{
		{example(), pa([]int{12, 2}), api.Before}, {pa([]int{1}), pa([]int{0, 1}), api.Apart}, {pa(nil), pa([]int{0}), api.Same}, {pa([]int{12, 2}), example(), api.After},
		{pa(nil, sp(15, 3, 3)), pa(lastPlace(3)), api.Before}, {pa([]int{greatInt}), pa(nil, sp(0, leastInt, greatest)), api.Same}, {pa([]int{greatest}), pa([]int{greatest - 1}), api.After}, {pa(slices.Repeat([]int{1}, 20)), pa(slices.Repeat([]int{1}, 16)), api.Same},
	} {
		if got := past.Order(c.a, c.b); got != c.want {
			t.Errorf("Order(%v, %v) = %d, want %d", c.a, c.b, got, c.want)
		}
		if got := past.Within(c.a, c.b); got != (c.want == api.Same || c.want == api.Before) {
			t.Errorf("Within(%v, %v) = %v", c.a, c.b, got)
		}
	}
}

func TestCompare(t *testing.T) { // P4.4
	pairs(150, func(a, b api.Past) {
		got, want := past.Compare(a, b), comparison(a, b)
		if got != want || past.Compare(b, a) != -want {
			t.Errorf("Compare(%v, %v) = %d, %d the other way, want %d", a, b, got, past.Compare(b, a), want)
		}
		if (got == 0) != same(past.Norm(a), past.Norm(b)) {
			t.Errorf("Compare(%v, %v) = %d", a, b, got)
		}
	})
	for _, c := range []struct {
		a, b api.Past
		want int
	}{
		{pa([]int{1, 5}), pa([]int{2}), -1}, {pa([]int{1}, sp(0, 3, 3)), pa([]int{1}), 1}, {pa([]int{1}, sp(0, 3, 3)), pa([]int{1}, sp(0, 3, 4)), -1}, {pa([]int{1}, sp(0, 2, 2)), pa([]int{2}), 0},
		{pa([]int{1}), pa([]int{1, 0, 4}), -1}, {pa(nil, sp(0, 2, 2)), pa(nil, sp(1, 2, 2)), -1}, {pa(nil, sp(0, 2, 9)), pa(nil, sp(0, 3, 3)), -1}, {pa(nil, sp(0, 2, 2), sp(3, 2, 2)), pa(nil, sp(0, 2, 2)), 1}, {pa(nil, sp(0, 5, 5)), pa([]int{0, 1}), -1}, {pa(nil), pa(nil, sp(0, 5, 5)), -1},
		{pa(nil, sp(0, greatest, greatInt)), pa(nil, sp(0, greatest, greatest)), 0}, {pa([]int{2}, sp(0, 9, 9)), pa([]int{10}), -1}, {pa([]int{1, 1, 1}), pa([]int{2}), -1},
	} {
		if got := past.Compare(c.a, c.b); got != c.want {
			t.Errorf("Compare(%v, %v) = %d, want %d", c.a, c.b, got, c.want)
		}
	}
}

func TestCompareIsTotal(t *testing.T) { // P4.4
	all := samples(40)
	by := make([][]int, len(all))
	for i, a := range all {
		for _, b := range all {
			by[i] = append(by[i], past.Compare(a, b))
		}
	}
	for i := range all {
		for j := range all {
			for k := range all {
				if by[i][j] < 0 && by[j][k] < 0 && by[i][k] >= 0 {
					t.Errorf("%v is ahead of %v, that of %v, but the first isn't ahead of the last", all[i], all[j], all[k])
				}
			}
		}
	}
}
