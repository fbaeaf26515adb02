package keep_test

import (
	"slices"
	"testing"

	"barrow/api"
	"barrow/keep"
	"barrow/sample"
)

func TestCovers(t *testing.T) { // P7.2
	for _, p := range loosePasts() {
		for _, sku := range []string{"", "A", "B", "a", "\xff"} {
			r := api.Record{Sku: sku, Past: p}
			for _, e := range looseEntries() {
				if got := keep.Covers(r, e); got != sample.Covers(r, e) {
					t.Errorf("Covers(%v, %v) = %t", r, e, got)
				}
			}
		}
	}
	for _, c := range []struct {
		r    api.Record
		e    api.Entry
		want bool
	}{
		{re("", []int{2}), en(0, 2, "A", 5), true}, {re("B", []int{2}), en(0, 2, "A", 5), false}, {re("A", []int{2}), en(0, 3, "A", 5), false}, {re("A", []int{2}), en(0, 2, "A", 5), true},
		{re("", []int{2}), en(0, 2, "", 0), true}, {re("a", []int{2}), en(0, 2, "a", -1), true}, {re("A", []int{2}), en(0, 2, "", 5), false}, {re("", []int{greatInt}), en(0, 0, "A", 1), false}, {re("", []int{greatInt}), en(0, 1000000001, "A", 1), false}, {re("", nil, sp(16, 1, 9)), en(16, 1, "A", 1), false},
	} {
		if got := keep.Covers(c.r, c.e); got != c.want {
			t.Errorf("Covers(%v, %v) = %t", c.r, c.e, got)
		}
	}
}

func TestBars(t *testing.T) { // P7.2
	for _, list := range slices.Concat(lists(40), mixedLists()[:200]) {
		for _, e := range looseEntries() {
			if got := keep.Bars(list, e); got != barred(list, e) {
				t.Errorf("Bars(%v, %v) = %d, want %d", list, e, got, barred(list, e))
			}
		}
	}
	twice := rs(re("A", []int{1}), re("A", []int{1}), re("", []int{1, -5}), re("B", []int{1}))
	for _, c := range []struct {
		list []api.Record
		e    api.Entry
		want int
	}{
		{example(), en(1, 3, "A", 2), 1}, {example(), en(1, 2, "A", 5), 2}, {example(), en(0, 1, "A", 5), 2}, {example(), en(0, 1, "C", 1), 0}, {twice, en(0, 1, "A", 1), 3}, {nil, en(0, 1, "A", 1), 0},
	} {
		if got := keep.Bars(c.list, c.e); got != c.want {
			t.Errorf("Bars(%v, %v) = %d, want %d", c.list, c.e, got, c.want)
		}
	}
}

func TestApply(t *testing.T) { // P7.2
	for _, es := range sample.EntryLists(newDice().IntN, 150) {
		for _, list := range lists(60) {
			want := sample.Those(es, func(e api.Entry) bool { return barred(list, e) == 0 })
			if got, err := keep.Apply(es, list); !sameEntries(got, want) || err != api.OK {
				t.Errorf("Apply(%v, %v) = %v, %d, want %v", es, list, got, err, want)
			}
		}
	}
	if got, err := keep.Apply(entries(), example()); !sameEntries(got, es(en(0, 5, "A", 1))) || err != api.OK {
		t.Errorf("Apply = %v, %d", got, err)
	}
	if got, err := keep.Apply(entries(), nil); !sameEntries(got, entries()) || err != api.OK {
		t.Errorf("Apply of no records = %v, %d", got, err)
	}
}

func TestApplyOutOfForm(t *testing.T) { // P7.2
	refused := func(list []api.Entry, records []api.Record) {
		t.Helper()
		if got, err := keep.Apply(list, records); len(got) != 0 || err != api.ErrForm {
			t.Errorf("Apply(%v, %v) = %v, %d", list, records, got, err)
		}
	}
	for _, list := range sample.WrongEntryLists() {
		refused(list, nil)
		refused(list, example())
		refused(list, sample.WrongRecordLists()[0])
	}
	for _, records := range sample.WrongRecordLists() {
		refused(nil, records)
		refused(entries(), records)
	}
}

func TestApplyOfVeryMany(t *testing.T) { // P7.2
	var list, want []api.Entry
	var records []api.Record
	for num := 1; num <= 4000; num++ {
		odd := en(3, 2*num-1, "A", 1)
		list = append(list, odd, en(3, 2*num, "B", 2))
		if num > 2000 {
			want = append(want, odd)
		}
	}
	for num := 2; num <= 1000; num++ {
		records = append(records, re("A", []int{0, 0, 0, 4 * num}))
		records = append(records, re("B", []int{0, 0, 0, 8 * num}))
	}
	records, err := keep.Sort(records)
	if err != api.OK {
		t.Fatal(err)
	}
	if got, err := keep.Apply(list, records); !sameEntries(got, want) || err != api.OK {
		t.Errorf("Apply answers %d of %d entries, %d", len(got), len(want), err)
	}
}
