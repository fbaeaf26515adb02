package keep_test

import (
	"slices"
	"strings"
	"testing"

	"barrow/api"
	"barrow/keep"
	"barrow/past"
	"barrow/sample"
)

func TestCheckRecord(t *testing.T) { // P7.1
	for _, w := range sample.WrongRecords() {
		if got := keep.CheckRecord(w.Value); got != w.Err {
			t.Errorf("CheckRecord(%v) = %d, want %d", w.Value, got, w.Err)
		}
	}
	for _, list := range slices.Concat(lists(200), mixedLists()) {
		for _, r := range list {
			if got := keep.CheckRecord(r); got != fault(r) {
				t.Errorf("CheckRecord(%v) = %d, want %d", r, got, fault(r))
			}
		}
	}
	for _, c := range []struct {
		r    api.Record
		want api.Errno
	}{
		{re("a", []int{0}), api.ErrSku}, {re("A", []int{0}), api.ErrForm}, {re("", nil), api.ErrForm}, {re("", []int{1}), api.OK},
		{re("A", []int{1}, sp(0, 2, 2)), api.ErrForm}, {re("A", []int{1}, sp(0, 3, 3)), api.OK}, {re("A", nil, sp(15, 1000000000, 1000000000)), api.OK},
		{re(strings.Repeat("A", 24), []int{1}), api.OK}, {re(strings.Repeat("A", 25), []int{1}), api.ErrSku}, {re(" ", []int{1}), api.ErrSku}, {api.Record{}, api.ErrForm},
	} {
		if got := keep.CheckRecord(c.r); got != c.want {
			t.Errorf("CheckRecord(%v) = %d, want %d", c.r, got, c.want)
		}
	}
}

func TestCheck(t *testing.T) { // P7.1
	for _, list := range lists(400) {
		if got := keep.Check(list); got != api.OK {
			t.Errorf("Check(%v) = %d", list, got)
		}
	}
	for _, list := range sample.WrongRecordLists() {
		if got := keep.Check(list); got != api.ErrForm {
			t.Errorf("Check(%v) = %d", list, got)
		}
	}
	for _, list := range mixedLists() {
		want := api.ErrForm
		if inForm(list) {
			want = api.OK
		}
		if got := keep.Check(list); got != want {
			t.Errorf("Check(%v) = %d, want %d", list, got, want)
		}
	}
	if got := keep.Check(example()); got != api.OK {
		t.Errorf("Check of the example = %d", got)
	}
}

func TestCompare(t *testing.T) { // P7.1
	var all []api.Record
	for _, p := range loosePasts() {
		for _, sku := range []string{"", "A", "a", "\xff"} {
			all = append(all, api.Record{Sku: sku, Past: p})
		}
	}
	for _, x := range all {
		for _, y := range all {
			if got := keep.Compare(x, y); got != order(x, y) {
				t.Errorf("Compare(%v, %v) = %d, want %d", x, y, got, order(x, y))
			}
		}
	}
	for _, c := range []struct {
		a, b api.Record
		want int
	}{
		{re("", []int{9}), re("A", []int{1}), -1}, {re("A", []int{2}, sp(0, 4, 4), sp(1, 2, 3)), re("A", []int{3}), -1}, {re("A", []int{1, 0}), re("A", []int{1}), 0}, {re("B", nil, sp(0, 1, 2)), re("B", []int{2}), 0},
		{re("A10", []int{1}), re("A2", []int{1}), -1}, {re("A", []int{1}), re("A-1", []int{1}), -1}, {re("B", nil), re("A", []int{5}), 1}, {re("", nil), re("", []int{0, -3}), 0}, {re("A", []int{1, 5}), re("A", []int{2}), -1},
	} {
		if got, back := keep.Compare(c.a, c.b), keep.Compare(c.b, c.a); got != c.want || back != -c.want {
			t.Errorf("Compare(%v, %v) = %d, the other way %d, want %d", c.a, c.b, got, back, c.want)
		}
	}
}

func TestSort(t *testing.T) { // P7.1
	for _, list := range slices.Concat(mixedLists(), lists(100)) {
		got, err := keep.Sort(list)
		want, wantErr := sorting(list)
		if !same(got, want) || err != wantErr {
			t.Errorf("Sort(%v) = %v, %d, want %v, %d", list, got, err, want, wantErr)
		}
		if !inForm(got) {
			t.Errorf("Sort(%v) = %v isn't in form", list, got)
		}
	}
	for _, list := range lists(400) {
		if got, err := keep.Sort(list); !same(got, list) || err != api.OK {
			t.Errorf("Sort of a list in form, %v = %v, %d", list, got, err)
		}
	}
}

func TestSortsExamples(t *testing.T) { // P7.1
	for _, c := range []struct {
		list, want []api.Record
		err        api.Errno
	}{
		{rs(re("B", []int{0, 0, 0}, sp(0, 1, 2)), re("", []int{1}), re("B", []int{2}), re("A", nil)), rs(re("", []int{1}), re("B", []int{2})), api.OK},
		{rs(re("a", nil)), nil, api.ErrSku}, {rs(re("A", []int{1}), re("A", []int{1}), re("a", []int{-1})), nil, api.ErrSku}, {rs(re("A", []int{greatInt}), re("", []int{leastInt})), rs(re("A", []int{1000000000})), api.OK},
		{nil, nil, api.OK}, {rs(re("", nil), re("A", nil)), nil, api.OK}, {rs(re("A", []int{2}), re("A", []int{1}), re("", []int{3}), re("A", []int{2})), rs(re("", []int{3}), re("A", []int{1}), re("A", []int{2})), api.OK},
	} {
		if got, err := keep.Sort(c.list); !same(got, c.want) || err != c.err {
			t.Errorf("Sort(%v) = %v, %d, want %v, %d", c.list, got, err, c.want, c.err)
		}
	}
}

func TestUnion(t *testing.T) { // P7.3
	for _, a := range lists(60) {
		for _, b := range lists(60) {
			got, err := keep.Union(a, b)
			want, _ := sorting(slices.Concat(a, b))
			if !same(got, want) || err != api.OK {
				t.Errorf("Union(%v, %v) = %v, %d, want %v", a, b, got, err, want)
			}
			for _, r := range slices.Concat(a, b) {
				if !has(got, r) {
					t.Errorf("Union(%v, %v) = %v hasn't %v", a, b, got, r)
				}
			}
		}
	}
	r := example()
	if got, err := keep.Union(r[1:], r[:2]); !same(got, r) || err != api.OK {
		t.Errorf("Union = %v, %d", got, err)
	}
}

func TestUnionOutOfForm(t *testing.T) { // P7.3
	for _, wrong := range sample.WrongRecordLists() {
		for _, other := range [][]api.Record{nil, example(), wrong} {
			for _, c := range [][2][]api.Record{{wrong, other}, {other, wrong}} {
				if got, err := keep.Union(c[0], c[1]); len(got) != 0 || err != api.ErrForm {
					t.Errorf("Union(%v, %v) = %v, %d", c[0], c[1], got, err)
				}
			}
		}
	}
}

func TestWaits(t *testing.T) { // P7.3
	for _, list := range lists(80) {
		for _, p := range pasts(60) {
			want := sample.Those(list, func(r api.Record) bool {
				return slices.ContainsFunc(spans(r.Past), func(s api.Span) bool { return !holds(p, s) })
			})
			if got, err := keep.Waits(list, p); !same(got, want) || err != api.OK {
				t.Errorf("Waits(%v, %v) = %v, %d, want %v", list, p, got, err, want)
			}
		}
	}
	if got, err := keep.Waits(example(), pa([]int{3, 2})); !same(got, example()[1:2]) || err != api.OK {
		t.Errorf("Waits = %v, %d", got, err)
	}
	if got, err := keep.Waits(example(), pa([]int{3, 2}, sp(0, 5, 9))); !same(got, example()[1:2]) || err != api.OK {
		t.Errorf("Waits = %v, %d", got, err)
	}
	if got, err := keep.Waits(example(), pa([]int{4, 3})); len(got) != 0 || err != api.OK {
		t.Errorf("Waits at all that is named = %v, %d", got, err)
	}
}

// spans: all that is in a canonical past, stretch by stretch.
func spans(p api.Past) []api.Span {
	all := slices.Clone(p.Cloud)
	for rep, n := range p.Vec {
		if n > 0 {
			all = append(all, sp(rep, 1, n))
		}
	}
	return all
}

// holds: is the stretch in p? Each stretch of a canonical past is as long as can be, so that one of them has all of it.
func holds(p api.Past, s api.Span) bool {
	return slices.ContainsFunc(spans(p), func(x api.Span) bool { return x.Rep == s.Rep && x.Lo <= s.Lo && s.Hi <= x.Hi })
}

func TestWaitsOfVeryMany(t *testing.T) { // P7.3
	const count = 20000
	var p api.Past
	var list, want []api.Record
	for i := range count {
		p.Cloud = append(p.Cloud, sp(3, 4*i+2, 4*i+4))
	}
	for i := range count {
		// The past has all of each other one; of the rest it lacks the first dot, or the last.
		s := sp(3, 4*i+2, 4*i+4)
		switch i % 4 {
		case 1:
			s.Lo--
		case 3:
			s.Hi++
		}
		// A first span of its own keeps the records rising.
		r := re("A", nil, sp(2, i+2, i+2), s)
		list = append(list, r)
		if i%2 == 1 {
			want = append(want, r)
		}
	}
	p.Cloud = slices.Insert(p.Cloud, 0, sp(2, 2, count+1))
	if got, err := keep.Waits(list, p); !same(got, want) || err != api.OK {
		t.Errorf("Waits answers %d of %d records, %d", len(got), len(want), err)
	}
}

func TestWaitsOutOfForm(t *testing.T) { // P7.3
	refused := func(list []api.Record, p api.Past) {
		t.Helper()
		if got, err := keep.Waits(list, p); len(got) != 0 || err != api.ErrForm {
			t.Errorf("Waits(%v, %v) = %v, %d", list, p, got, err)
		}
	}
	for _, p := range sample.WrongPasts() {
		refused(nil, p)
		refused(example(), p)
		refused(sample.WrongRecordLists()[0], p)
	}
	for _, list := range sample.WrongRecordLists() {
		refused(list, api.Past{})
		refused(list, pa([]int{9, 9}))
	}
}

func TestUnionsAndWaits(t *testing.T) { // P7.3
	for _, a := range lists(25) {
		for _, b := range lists(25) {
			both, _ := keep.Union(a, b)
			back, _ := keep.Union(b, a)
			if !same(both, back) {
				t.Errorf("Union(%v, %v) = %v, the other way %v", a, b, both, back)
			}
			for _, p := range pasts(8) {
				got, _ := keep.Waits(both, p)
				x, _ := keep.Waits(a, p)
				y, _ := keep.Waits(b, p)
				if want, err := keep.Union(x, y); !same(got, want) || err != api.OK {
					t.Errorf("%v, %v at %v: of the union wait %v, and the union of what waits is %v, %d", a, b, p, got, want, err)
				}
			}
		}
	}
}

func TestWhatWaitsAtMoreWaitsAtLess(t *testing.T) { // P7.3
	for _, list := range lists(40) {
		for _, p := range pasts(20) {
			for _, q := range pasts(20) {
				atMore, _ := keep.Waits(list, past.Join(p, q))
				atLess, _ := keep.Waits(list, p)
				for _, r := range atMore {
					if !has(atLess, r) {
						t.Errorf("%v waits at more than %v and not there", r, p)
					}
				}
			}
		}
	}
}

func barred(list []api.Record, e api.Entry) int {
	return len(sample.Those(list, func(r api.Record) bool { return sample.Covers(r, e) }))
}

func TestFold(t *testing.T) { // P7.4
	for _, list := range lists(500) {
		got, err := keep.Fold(list)
		if err != api.OK || !inForm(got) || len(got) > len(list) {
			t.Errorf("Fold(%v) = %v, %d", list, got, err)
		}
		if want := folded(list); !same(got, want) {
			t.Errorf("Fold(%v) = %v, want %v", list, got, want)
		}
		if again, err := keep.Fold(got); !same(again, got) || err != api.OK {
			t.Errorf("Fold(%v) = %v, and of that %v, %d", list, got, again, err)
		}
		for _, e := range probes() {
			if n := barred(got, e); n != min(barred(list, e), 1) {
				t.Errorf("Fold(%v) = %v: %d of it cover %v", list, got, n, e)
			}
		}
	}
}

// folded is the chapter's definition of Fold, word by word.
func folded(list []api.Record) []api.Record {
	union := func(sku string) api.Past {
		p := api.Past{}
		for _, r := range list {
			if r.Sku == sku {
				p = past.Join(p, r.Past)
			}
		}
		return p
	}
	all := []api.Record{{Sku: "", Past: union("")}}
	for _, r := range list {
		if r.Sku != "" {
			all = append(all, api.Record{Sku: r.Sku, Past: past.Minus(union(r.Sku), union(""))})
		}
	}
	out, _ := sorting(all)
	return out
}

func TestFoldsExamples(t *testing.T) { // P7.4
	for _, c := range []struct {
		list, want []api.Record
		err        api.Errno
	}{
		{example(), rs(re("", []int{0, 2}), re("A", []int{4}, sp(1, 3, 3))), api.OK}, {rs(re("", []int{5}), re("B", []int{3})), rs(re("", []int{5})), api.OK}, {nil, nil, api.OK}, {rs(re("A", []int{1}), re("A", nil, sp(0, 2, 2))), nil, api.ErrForm},
		{rs(re("A", nil, sp(0, 2, 2)), re("A", []int{1})), rs(re("A", []int{2})), api.OK}, {rs(re("A", []int{1}), re("B", []int{1})), rs(re("A", []int{1}), re("B", []int{1})), api.OK}, {rs(re("", nil, sp(0, 3, 3)), re("", []int{1}), re("A", []int{4})), rs(re("", []int{1}, sp(0, 3, 3)), re("A", nil, sp(0, 2, 2), sp(0, 4, 4))), api.OK},
	} {
		if got, err := keep.Fold(c.list); !same(got, c.want) || err != c.err {
			t.Errorf("Fold(%v) = %v, %d, want %v, %d", c.list, got, err, c.want, c.err)
		}
	}
	for _, list := range sample.WrongRecordLists() {
		if got, err := keep.Fold(list); len(got) != 0 || err != api.ErrForm {
			t.Errorf("Fold(%v) = %v, %d", list, got, err)
		}
	}
}
