package lines_test

import (
	"slices"
	"testing"

	"barrow/api"
	"barrow/lines"
	"barrow/past"
	"barrow/sample"
)

func checkFind(t *testing.T, list []api.Entry, d api.Dot) {
	t.Helper()
	var want api.Entry
	found := false
	for _, e := range list {
		if !found && e.Dot == d {
			want, found = e, true
		}
	}
	if got, ok := lines.Find(list, d); got != want || ok != found {
		t.Errorf("Find(%v, %v) = %v, %v, want %v, %v", list, d, got, ok, want, found)
	}
}

func TestFind(t *testing.T) { // P6.1
	dice := newDice()
	for range 1000 {
		list := sample.LooseEntries(dice.IntN, true)
		checkFind(t, list, api.Dot{Rep: dice.IntN(3), Num: 1 + dice.IntN(6)})
		checkFind(t, list, api.Dot{Rep: 15, Num: api.MaxNum - dice.IntN(3)})
	}
	for _, list := range slices.Concat(sample.EdgeEntryLists(), sample.WrongEntryLists()) {
		for _, e := range list {
			checkFind(t, list, e.Dot)
		}
		for _, d := range []api.Dot{{}, {Rep: 16, Num: 0}, {Rep: -1, Num: 1}, {Rep: leastInt, Num: greatInt}} {
			checkFind(t, list, d)
		}
	}
	if got, ok := lines.Find(es(en(0, 3, "A", 5), en(0, 3, "A", 6)), api.Dot{Rep: 0, Num: 3}); got != en(0, 3, "A", 5) || !ok {
		t.Errorf("Find of two = %v, %v", got, ok)
	}
	if got, ok := lines.Find(es(en(0, 1, "A", 1), en(16, 0, "a", -1)), api.Dot{Rep: 16, Num: 0}); got != en(16, 0, "a", -1) || !ok {
		t.Errorf("Find of what is no dot = %v, %v", got, ok)
	}
	if got, ok := lines.Find(nil, api.Dot{}); got != (api.Entry{}) || ok {
		t.Errorf("Find of nothing = %v, %v", got, ok)
	}
}

func someSkus() []string { return []string{"A", "B", "A-1", "A10", "A2", "C", "0"} }

func noSkus() []string { return []string{"", "a", "A-", "A B", "\xff", "AAAAAAAAAAAAAAAAAAAAAAAAA"} }

func noReps() []int { return []int{leastInt, -1, 16, 17, greatInt} }

func TestOf(t *testing.T) { // P6.2
	for _, list := range samples(300) {
		for _, sku := range someSkus() {
			want := sample.Those(list, func(e api.Entry) bool { return e.Sku == sku })
			if got, err := lines.Of(list, sku); !same(got, want) || err != api.OK {
				t.Errorf("Of(%v, %q) = %v, %d, want %v", list, sku, got, err, want)
			}
		}
		for _, sku := range noSkus() {
			if got, err := lines.Of(list, sku); len(got) != 0 || err != api.ErrSku {
				t.Errorf("Of(%v, %q) = %v, %d", list, sku, got, err)
			}
		}
	}
	for _, list := range sample.WrongEntryLists() {
		for _, sku := range []string{"A", "a"} {
			if got, err := lines.Of(list, sku); len(got) != 0 || err != api.ErrForm {
				t.Errorf("Of(%v, %q) = %v, %d", list, sku, got, err)
			}
		}
	}
	if got, err := lines.Of(example(), "A"); !same(got, es(en(0, 3, "A", 5), en(1, 4, "A", 1))) || err != api.OK {
		t.Errorf("Of A = %v, %d", got, err)
	}
}

func TestOwn(t *testing.T) { // P6.2
	for _, list := range samples(150) {
		for rep := range api.MaxReps {
			for _, sku := range someSkus() {
				want := sample.Those(list, func(e api.Entry) bool { return e.Dot.Rep == rep && e.Sku == sku })
				if got, err := lines.Own(list, rep, sku); !same(got, want) || err != api.OK {
					t.Errorf("Own(%v, %d, %q) = %v, %d, want %v", list, rep, sku, got, err, want)
				}
			}
			for _, sku := range noSkus() {
				if got, err := lines.Own(list, rep, sku); len(got) != 0 || err != api.ErrSku {
					t.Errorf("Own(%v, %d, %q) = %v, %d", list, rep, sku, got, err)
				}
			}
		}
		for _, rep := range noReps() {
			for _, sku := range []string{"A", "a"} {
				if got, err := lines.Own(list, rep, sku); len(got) != 0 || err != api.ErrRep {
					t.Errorf("Own(%v, %d, %q) = %v, %d", list, rep, sku, got, err)
				}
			}
		}
	}
	for _, list := range sample.WrongEntryLists() {
		for _, rep := range []int{0, 16} {
			for _, sku := range []string{"A", "a"} {
				if got, err := lines.Own(list, rep, sku); len(got) != 0 || err != api.ErrForm {
					t.Errorf("Own(%v, %d, %q) = %v, %d", list, rep, sku, got, err)
				}
			}
		}
	}
	if got, err := lines.Own(example(), 1, "A"); !same(got, es(en(1, 4, "A", 1))) || err != api.OK {
		t.Errorf("Own 1, A = %v, %d", got, err)
	}
}

func TestDots(t *testing.T) { // P6.2
	for _, list := range samples(300) {
		got, err := lines.Dots(list)
		if err != api.OK || !past.IsNorm(got) || past.Size(got) != len(list) {
			t.Errorf("Dots(%v) = %v, %d", list, got, err)
		}
		for _, e := range list {
			if !sample.Has(got, e.Dot) {
				t.Errorf("Dots(%v) = %v hasn't %v", list, got, e.Dot)
			}
		}
	}
	for _, list := range sample.WrongEntryLists() {
		if got, err := lines.Dots(list); !sample.SamePast(got, api.Past{}) || err != api.ErrForm {
			t.Errorf("Dots(%v) = %v, %d", list, got, err)
		}
	}
	if got, err := lines.Dots(example()); !sample.SamePast(got, pa([]int{0, 1}, sp(0, 3, 3), sp(1, 4, 4))) || err != api.OK {
		t.Errorf("Dots = %v, %d", got, err)
	}
}

func TestInsideAndOutside(t *testing.T) { // P6.2
	for _, list := range samples(80) {
		for _, p := range pasts(80) {
			inside := sample.Those(list, func(e api.Entry) bool { return sample.Has(p, e.Dot) })
			outside := sample.Those(list, func(e api.Entry) bool { return !sample.Has(p, e.Dot) })
			if got, err := lines.Inside(list, p); !same(got, inside) || err != api.OK {
				t.Errorf("Inside(%v, %v) = %v, %d, want %v", list, p, got, err, inside)
			}
			if got, err := lines.Outside(list, p); !same(got, outside) || err != api.OK {
				t.Errorf("Outside(%v, %v) = %v, %d, want %v", list, p, got, err, outside)
			}
		}
	}
	if got, err := lines.Inside(example(), pa([]int{3})); !same(got, example()[:1]) || err != api.OK {
		t.Errorf("Inside = %v, %d", got, err)
	}
	if got, err := lines.Outside(example(), pa([]int{3})); !same(got, example()[1:]) || err != api.OK {
		t.Errorf("Outside = %v, %d", got, err)
	}
}

func TestInsideAndOutsideOutOfForm(t *testing.T) { // P6.2
	refused := func(list []api.Entry, p api.Past) {
		t.Helper()
		if got, err := lines.Inside(list, p); len(got) != 0 || err != api.ErrForm {
			t.Errorf("Inside(%v, %v) = %v, %d", list, p, got, err)
		}
		if got, err := lines.Outside(list, p); len(got) != 0 || err != api.ErrForm {
			t.Errorf("Outside(%v, %v) = %v, %d", list, p, got, err)
		}
	}
	for _, p := range sample.WrongPasts() {
		refused(nil, p)
		refused(example(), p)
		refused(sample.WrongEntryLists()[0], p)
	}
	for _, list := range sample.WrongEntryLists() {
		refused(list, api.Past{})
		refused(list, pa([]int{3}))
	}
}

func TestEveryEntryIsInsideOrOutside(t *testing.T) { // P6.2
	for _, list := range samples(40) {
		for _, p := range pasts(40) {
			inside, _ := lines.Inside(list, p)
			outside, _ := lines.Outside(list, p)
			both, err := lines.Union(inside, outside)
			if len(inside)+len(outside) != len(list) || !same(both, list) || err != api.OK {
				t.Errorf("%v, %v: inside %v, outside %v", list, p, inside, outside)
			}
		}
	}
}
