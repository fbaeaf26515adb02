package tomb_test

import (
	"slices"
	"testing"

	"barrow/api"
	"barrow/sample"
	"barrow/tomb"
)

// standing is the chapter's definition of Order.
func standing(a, b api.Facts) int {
	switch {
	case within(a, b) && within(b, a):
		return api.Same
	case within(a, b):
		return api.Before
	case within(b, a):
		return api.After
	}
	return api.Apart
}

func checkPair(t *testing.T, a, b api.Facts) {
	t.Helper()
	if got, err := tomb.Within(a, b); got != within(a, b) || err != api.OK {
		t.Errorf("Within(%v, %v) = %t, %d", a, b, got, err)
	}
	if got, err := tomb.Order(a, b); got != standing(a, b) || err != api.OK {
		t.Errorf("Order(%v, %v) = %d, %d, want %d", a, b, got, err, standing(a, b))
	}
	if got, err := tomb.Less(a, b); !isLess(got, a, b) || err != api.OK {
		t.Errorf("Less(%v, %v) = %v, %d", a, b, got, err)
	}
	want, wantFound := clashing(a, b)
	if got, found := tomb.Clash(a, b); got != want || found != wantFound {
		t.Errorf("Clash(%v, %v) = %v, %t, want %v, %t", a, b, got, found, want, wantFound)
	}
}

func TestPairs(t *testing.T) { // P10.4
	orders := [4]int{}
	for _, all := range [][]api.Facts{mixed(40), alike(t, 40)} {
		for _, a := range all {
			for _, b := range all {
				checkPair(t, a, b)
				orders[standing(a, b)]++
			}
		}
	}
	for order, count := range orders {
		if count < 50 {
			t.Errorf("only %d pairs stand as %d says", count, order)
		}
	}
}

func TestPairsOutOfForm(t *testing.T) { // P10.4
	refused := func(a, b api.Facts) {
		t.Helper()
		if got, err := tomb.Within(a, b); got || err != api.ErrForm {
			t.Errorf("Within(%v, %v) = %t, %d", a, b, got, err)
		}
		if got, err := tomb.Order(a, b); got != 0 || err != api.ErrForm {
			t.Errorf("Order(%v, %v) = %d, %d", a, b, got, err)
		}
		if got, err := tomb.Less(a, b); !isZero(got) || err != api.ErrForm {
			t.Errorf("Less(%v, %v) = %v, %d", a, b, got, err)
		}
		if got, found := tomb.Clash(a, b); got != (api.Dot{}) || found {
			t.Errorf("Clash(%v, %v) = %v, %t", a, b, got, found)
		}
	}
	for _, wrong := range sample.WrongFacts() {
		for _, other := range []api.Facts{{}, f(), add(en(0, 1, "A", 6)), wrong} {
			refused(wrong, other)
			refused(other, wrong)
		}
	}
	// The adds clash, and something else isn't in form.
	refused(api.Facts{Adds: es(en(0, 1, "A", 5)), Gone: pa([]int{0})}, add(en(0, 1, "A", 6)))
	refused(add(en(0, 1, "A", 5)), api.Facts{Adds: es(en(0, 1, "A", 6)), Recs: rs(re("a", []int{1}))})
}

func TestOrdersExamples(t *testing.T) { // P10.4
	for _, c := range []struct {
		a, b api.Facts
		want int
	}{
		{gone(1), gone(2), api.Before}, {gone(2), gone(1), api.After}, {api.Facts{}, api.Facts{}, api.Same}, {f(), g(), api.Apart}, {api.Facts{}, g(), api.Before}, {rec("A", 1), rec("A", 2), api.Apart}, {rec("A", 1), rec("B", 1), api.Apart},
		{f(), api.Facts{Adds: f().Adds}, api.After}, {add(en(0, 1, "A", 5)), add(en(0, 1, "A", 6)), api.Apart}, {add(en(0, 1, "A", 5)), add(en(0, 1, "B", 5)), api.Apart}, {add(en(0, 1, "A", 5)), api.Facts{Adds: es(en(0, 1, "A", 6), en(0, 2, "A", 5))}, api.Apart},
		// A dot that is added and one that is gone are two facts.
		{add(en(0, 1, "A", 5)), gone(1), api.Apart}, {add(en(0, 1, "A", 5)), api.Facts{Adds: es(en(0, 1, "A", 5)), Gone: pa([]int{1})}, api.Before}, {gone(1), rec("", 1), api.Apart}, {f(), f(), api.Same},
	} {
		if got, err := tomb.Order(c.a, c.b); got != c.want || err != api.OK {
			t.Errorf("Order(%v, %v) = %d, %d, want %d", c.a, c.b, got, err, c.want)
		}
		want := c.want == api.Same || c.want == api.Before
		if got, err := tomb.Within(c.a, c.b); got != want || err != api.OK {
			t.Errorf("Within(%v, %v) = %t, %d", c.a, c.b, got, err)
		}
	}
}

func TestLessExamples(t *testing.T) { // P10.4
	for _, c := range []struct{ a, b, want api.Facts }{
		{f(), api.Facts{Adds: es(en(0, 1, "A", 5)), Gone: pa([]int{1})}, api.Facts{Adds: es(en(0, 2, "B", 2), en(1, 1, "A", 1))}}, {f(), f(), api.Facts{}}, {f(), api.Facts{}, f()}, {api.Facts{}, f(), api.Facts{}}, {f(), g(), f()},
		{gone(3), gone(1), api.Facts{Gone: pa(nil, sp(0, 2, 3))}}, {rec("A", 1), rec("A", 2), rec("A", 1)}, {add(en(0, 1, "A", 5)), add(en(0, 1, "A", 6)), add(en(0, 1, "A", 5))}, {add(en(0, 1, "A", 5)), gone(1), add(en(0, 1, "A", 5))},
		{api.Facts{Recs: rs(re("", []int{1}), re("A", []int{1}), re("A", []int{2}))}, rec("A", 1), api.Facts{Recs: rs(re("", []int{1}), re("A", []int{2}))}},
	} {
		if got, err := tomb.Less(c.a, c.b); !same(got, c.want) || err != api.OK {
			t.Errorf("Less(%v, %v) = %v, %d, want %v", c.a, c.b, got, err, c.want)
		}
	}
}

func TestClashsExamples(t *testing.T) { // P10.4
	a := api.Facts{Adds: es(en(0, 1, "A", 5), en(0, 9, "A", 5), en(1, 1, "B", 1))}
	for _, c := range []struct {
		a, b  api.Facts
		want  api.Dot
		found bool
	}{
		{add(en(0, 1, "A", 5)), add(en(0, 1, "A", 6)), api.Dot{Rep: 0, Num: 1}, true}, {a, a, api.Dot{}, false}, {a, api.Facts{}, api.Dot{}, false},
		{a, api.Facts{Adds: es(en(0, 1, "A", 5), en(0, 9, "B", 5), en(1, 1, "B", 2))}, api.Dot{Rep: 0, Num: 9}, true}, {a, api.Facts{Adds: es(en(0, 2, "A", 5), en(1, 1, "C", 1))}, api.Dot{Rep: 1, Num: 1}, true},
		{api.Facts{Adds: es(en(0, 1, "A", 5)), Gone: pa([]int{1})}, api.Facts{Adds: es(en(0, 1, "A", 6)), Gone: pa([]int{1})}, api.Dot{Rep: 0, Num: 1}, true}, {add(en(0, 1, "A", 5)), gone(1), api.Dot{}, false},
	} {
		if got, found := tomb.Clash(c.a, c.b); got != c.want || found != c.found {
			t.Errorf("Clash(%v, %v) = %v, %t", c.a, c.b, got, found)
		}
	}
}

func TestLessAndJoinGiveTheJoin(t *testing.T) { // P10.4
	all := alike(t, 40)
	for _, a := range all {
		for _, b := range all {
			rest, _ := tomb.Less(a, b)
			if got, want := joined(t, b, rest), joined(t, a, b); !same(got, want) {
				t.Errorf("Join(%v, Less(%v, it)) = %v, want %v", b, a, got, want)
			}
		}
	}
}

func TestJoinClashesJustWhereClashSaysSo(t *testing.T) { // P10.4
	all := slices.Concat(mixed(40), sample.WrongFacts()[:20])
	for _, a := range all {
		for _, b := range all {
			_, err := tomb.Join(a, b)
			if _, found := tomb.Clash(a, b); found != (err == api.ErrClash) {
				t.Errorf("%v, %v: Clash says %t, Join %d", a, b, found, err)
			}
		}
	}
}

func TestVeryMany(t *testing.T) { // P10.2, P10.4
	var a, b api.Facts
	for i := 1; i <= 20000; i++ {
		a.Adds = append(a.Adds, en(2, 2*i, "A", 1))
		b.Adds = append(b.Adds, en(2, 3*i, "A", 1))
		a.Gone.Cloud = append(a.Gone.Cloud, sp(2, 4*i, 4*i))
		if i <= 2000 {
			a.Recs = append(a.Recs, re("A", []int{2 * i}))
			b.Recs = append(b.Recs, re("A", []int{3 * i}))
		}
	}
	j := joined(t, a, b)
	rest, _ := tomb.Less(a, b)
	if again := joined(t, b, rest); !same(again, j) || len(j.Adds) != 40000-6666 || len(j.Recs) != 4000-666 {
		t.Errorf("the join has %d adds, %d records", len(j.Adds), len(j.Recs))
	}
	if order, err := tomb.Order(rest, j); order != api.Before || err != api.OK {
		t.Errorf("Order = %d, %d", order, err)
	}
	// Of another SKU than the records', so that what is gone alone counts: each fourth number.
	for i := range j.Adds {
		j.Adds[i].Sku = "B"
	}
	want := sample.Those(j.Adds, func(e api.Entry) bool { return e.Dot.Num%4 != 0 })
	if got, err := tomb.Live(j); !slices.Equal(got, want) || err != api.OK {
		t.Errorf("%d of %d adds are live, %d", len(got), len(j.Adds), err)
	}
	if got, found := tomb.Clash(j, a); got != (api.Dot{Rep: 2, Num: 2}) || !found {
		t.Errorf("Clash = %v, %t", got, found)
	}
}
