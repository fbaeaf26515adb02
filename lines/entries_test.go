package lines_test

import (
	"slices"
	"testing"

	"barrow/api"
	"barrow/lines"
	"barrow/sample"
)

func TestCheckEntry(t *testing.T) { // P6.1
	for e, want := range badEntries() {
		if got := lines.CheckEntry(e); got != want {
			t.Errorf("CheckEntry(%v) = %d, want %d", e, got, want)
		}
	}
	for _, rep := range []int{leastInt, -1, 0, 1, 15, 16, greatInt} {
		for _, num := range []int{leastInt, -1, 0, 1, 1000000000, 1000000001, greatInt} {
			for _, sku := range []string{"", "A", "a", "A.B-0", "-A", "ABCDEFGHIJKLMNOPQRSTUVWX", "ABCDEFGHIJKLMNOPQRSTUVWXY"} {
				for _, qty := range []int{leastInt, -1, 0, 1, 2, 1000000, 1000001, greatInt} {
					e := en(rep, num, sku, qty)
					if got := lines.CheckEntry(e); got != fault(e) {
						t.Errorf("CheckEntry(%v) = %d, want %d", e, got, fault(e))
					}
				}
			}
		}
	}
	for _, e := range es(en(15, 1000000000, "A", 1000000), en(0, 1, "A", 1)) {
		if got := lines.CheckEntry(e); got != api.OK {
			t.Errorf("CheckEntry(%v) = %d", e, got)
		}
	}
}

func TestCheck(t *testing.T) { // P6.1
	for _, list := range samples(300) {
		if got := lines.Check(list); got != api.OK {
			t.Errorf("Check(%v) = %d", list, got)
		}
	}
	for _, list := range sample.WrongEntryLists() {
		if got := lines.Check(list); got != api.ErrForm {
			t.Errorf("Check(%v) = %d", list, got)
		}
	}
	dice := newDice()
	for range 2000 {
		list, want := sample.LooseEntries(dice.IntN, true), api.ErrForm
		if inForm(list) {
			want = api.OK
		}
		if got := lines.Check(list); got != want {
			t.Errorf("Check(%v) = %d, want %d", list, got, want)
		}
	}
}

func checkSort(t *testing.T, list []api.Entry) {
	t.Helper()
	got, err := lines.Sort(list)
	want, wantErr := sorting(list)
	if !same(got, want) || err != wantErr {
		t.Errorf("Sort(%v) = %v, %d, want %v, %d", list, got, err, want, wantErr)
	}
	if lines.Check(got) != api.OK {
		t.Errorf("Sort(%v) = %v isn't in form", list, got)
	}
}

func TestSort(t *testing.T) { // P6.1
	dice := newDice()
	for range 3000 {
		checkSort(t, sample.LooseEntries(dice.IntN, true))
		checkSort(t, sample.LooseEntries(dice.IntN, false))
	}
	for _, list := range slices.Concat(samples(100), sample.WrongEntryLists()) {
		checkSort(t, list)
	}
	for bad := range badEntries() {
		for other := range badEntries() {
			checkSort(t, es(en(1, 1, "A", 1), bad, other))
			checkSort(t, es(en(1, 1, "A", 1), en(1, 1, "A", 2), bad))
		}
	}
}

func TestSortsExamples(t *testing.T) { // P6.1
	for _, c := range []struct {
		list, want []api.Entry
		err        api.Errno
	}{
		{es(en(1, 1, "B", 2), en(0, 3, "A", 5), en(1, 1, "B", 2)), es(en(0, 3, "A", 5), en(1, 1, "B", 2)), api.OK},
		{es(en(0, 3, "A", 5), en(0, 3, "A", 6), en(0, 1, "A", 0)), nil, api.ErrQty},
		{es(en(0, 3, "A", 5), en(0, 3, "B", 5)), nil, api.ErrClash},
		{es(en(0, 3, "A", 5), en(1, 1, "A", 5), en(0, 3, "A", 6)), nil, api.ErrClash},
		{es(en(0, 3, "A", 5), en(0, 3, "A", 6), en(0, 3, "A", 5)), nil, api.ErrClash},
		{es(en(0, 1, "a", 0), en(16, 1, "A", 1)), nil, api.ErrSku},
		{es(en(16, 1, "A", 1), en(0, 1, "a", 0)), nil, api.ErrRep},
		{nil, nil, api.OK},
	} {
		if got, err := lines.Sort(c.list); !same(got, c.want) || err != c.err {
			t.Errorf("Sort(%v) = %v, %d, want %v, %d", c.list, got, err, c.want, c.err)
		}
	}
}

func TestSortHangsOnTheSetAlone(t *testing.T) { // P6.1
	dice := newDice()
	for _, list := range samples(300) {
		if got, err := lines.Sort(list); !same(got, list) || err != api.OK {
			t.Errorf("Sort of a list in form, %v = %v, %d", list, got, err)
		}
		mixed := slices.Clone(list)
		for _, e := range list {
			for range dice.IntN(3) {
				mixed = append(mixed, e)
			}
		}
		dice.Shuffle(len(mixed), func(i, j int) { mixed[i], mixed[j] = mixed[j], mixed[i] })
		if got, err := lines.Sort(mixed); !same(got, list) || err != api.OK {
			t.Errorf("Sort(%v) = %v, %d, want %v", mixed, got, err, list)
		}
	}
}

func TestSortOfVeryMany(t *testing.T) { // P6.1
	var list []api.Entry
	for rep := range api.MaxReps {
		for num := 1; num <= 500; num++ {
			list = append(list, en(rep, num, "A", 1+num))
		}
	}
	mixed := slices.Concat(list, list, list[100:200])
	newDice().Shuffle(len(mixed), func(i, j int) { mixed[i], mixed[j] = mixed[j], mixed[i] })
	if got, err := lines.Sort(mixed); !same(got, list) || err != api.OK {
		t.Errorf("Sort answers %d of %d entries, %d", len(got), len(list), err)
	}
	clash := append(mixed, en(7, 250, "A", 1))
	if got, err := lines.Sort(clash); len(got) != 0 || err != api.ErrClash {
		t.Errorf("Sort with a clash answers %d entries, %d", len(got), err)
	}
}

func TestUnion(t *testing.T) { // P6.3
	all := samples(120)
	for _, a := range all {
		for _, b := range all {
			got, err := lines.Union(a, b)
			want, wantErr := sorting(slices.Concat(a, b))
			if !same(got, want) || err != wantErr {
				t.Errorf("Union(%v, %v) = %v, %d, want %v, %d", a, b, got, err, want, wantErr)
			}
			if back, backErr := lines.Union(b, a); !same(got, back) || err != backErr {
				t.Errorf("Union(%v, %v) = %v, %d, the other way %v, %d", a, b, got, err, back, backErr)
			}
		}
		if got, err := lines.Union(a, a); !same(got, a) || err != api.OK {
			t.Errorf("Union of %v with itself = %v, %d", a, got, err)
		}
	}
}

func TestUnionsExamples(t *testing.T) { // P6.3
	for _, c := range []struct {
		a, b, want []api.Entry
		err        api.Errno
	}{
		{es(en(0, 3, "A", 5)), es(en(0, 3, "A", 5), en(1, 1, "B", 2)), es(en(0, 3, "A", 5), en(1, 1, "B", 2)), api.OK},
		{es(en(0, 3, "A", 5)), es(en(0, 3, "A", 6)), nil, api.ErrClash},
		{es(en(0, 3, "A", 5)), es(en(0, 3, "B", 5)), nil, api.ErrClash},
		{es(en(0, 3, "A", 5), en(0, 3, "A", 6)), es(en(0, 3, "A", 6)), nil, api.ErrForm},
		{es(en(2, 1, "A", 5)), es(en(0, 3, "A", 6)), es(en(0, 3, "A", 6), en(2, 1, "A", 5)), api.OK},
		{nil, nil, nil, api.OK},
	} {
		if got, err := lines.Union(c.a, c.b); !same(got, c.want) || err != c.err {
			t.Errorf("Union(%v, %v) = %v, %d, want %v, %d", c.a, c.b, got, err, c.want, c.err)
		}
	}
	for _, bad := range sample.WrongEntryLists() {
		for _, other := range [][]api.Entry{nil, example(), bad} {
			for _, c := range [][2][]api.Entry{{bad, other}, {other, bad}} {
				if got, err := lines.Union(c[0], c[1]); len(got) != 0 || err != api.ErrForm {
					t.Errorf("Union(%v, %v) = %v, %d", c[0], c[1], got, err)
				}
			}
		}
	}
}
