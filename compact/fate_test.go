package compact_test

import (
	"math"
	"slices"
	"testing"

	"barrow/api"
	"barrow/compact"
	"barrow/sample"
)

// noDots: out of the bounds of a dot by one place or by both.
func noDots() []api.Dot {
	return []api.Dot{{}, dot(0, 0), dot(0, -1), dot(-1, 1), dot(16, 1), dot(16, 0), dot(15, api.MaxNum+1), dot(math.MinInt, 1), dot(math.MaxInt, 1), dot(0, math.MinInt), dot(0, math.MaxInt)}
}

func TestFate(t *testing.T) { // P13.2
	kinds := [4]int{}
	for _, f := range mixed(200) {
		for _, d := range sample.Dots() {
			want := fateOf(f, d)
			if got, err := compact.Fate(f, d); got != want || err != api.OK {
				t.Errorf("Fate(%v, %v) = %v, %d, want %v", f, d, got, err, want)
			}
			kinds[want.Kind]++
		}
		for _, d := range noDots() {
			if got, err := compact.Fate(f, d); got != (api.Fate{}) || err != api.ErrArg {
				t.Errorf("Fate(%v, %v) = %v, %d", f, d, got, err)
			}
		}
	}
	for kind, count := range kinds {
		if count < 50 {
			t.Errorf("only %d fates are of the kind %d", count, kind)
		}
	}
}

func TestFatesExamples(t *testing.T) { // P13.2
	for d, want := range map[api.Dot]api.Fate{
		dot(0, 1): {Kind: api.FateGone, Recs: 1}, dot(0, 2): {Kind: api.FateBarred, Recs: 1}, dot(1, 1): {Kind: api.FateLive}, dot(2, 5): {Kind: api.FateGone}, dot(3, 1): {Kind: api.FateUnknown},
		dot(0, 3): {Kind: api.FateUnknown}, dot(2, 4): {Kind: api.FateUnknown}, dot(15, api.MaxNum): {Kind: api.FateUnknown},
	} {
		want.Dot = d
		if got, err := compact.Fate(example(), d); got != want || err != api.OK {
			t.Errorf("Fate(f, %v) = %v, %d, want %v", d, got, err, want)
		}
		none := api.Fate{Dot: d, Kind: api.FateUnknown}
		if got, err := compact.Fate(api.Facts{}, d); got != none || err != api.OK {
			t.Errorf("Fate(nothing, %v) = %v, %d", d, got, err)
		}
	}
	// Two records cover the add and two don't: another SKU, another dot.
	f := api.Facts{Adds: es(en(0, 2, "A", 1)), Recs: rs(re("", []int{2}), re("A", nil, sp(0, 2, 2)), re("A", []int{1}, sp(0, 3, 3)), re("B", []int{2}))}
	for _, c := range []struct {
		gone api.Past
		kind int
	}{{pa(nil), api.FateBarred}, {pa([]int{1}), api.FateBarred}, {pa([]int{2}), api.FateGone}} {
		f.Gone = c.gone
		want := api.Fate{Dot: dot(0, 2), Kind: c.kind, Recs: 2}
		if got, err := compact.Fate(f, dot(0, 2)); got != want || err != api.OK {
			t.Errorf("Fate(%v, (0, 2)) = %v, %d, want %v", f, got, err, want)
		}
	}
	// A record is about adds: it doesn't count where the dot alone is gone.
	f = api.Facts{Gone: pa([]int{2}), Recs: rs(re("", []int{2}))}
	if got, err := compact.Fate(f, dot(0, 2)); got != (api.Fate{Dot: dot(0, 2), Kind: api.FateGone}) || err != api.OK {
		t.Errorf("Fate(%v, (0, 2)) = %v, %d", f, got, err)
	}
}

func TestStory(t *testing.T) { // P13.2
	told := 0
	for _, f := range mixed(500) {
		for _, sku := range []string{"A", "B", "A-1", "A10", "A2", "0", "C"} {
			want := storyOf(f, sku)
			if got, err := compact.Story(f, sku); !slices.Equal(got, want) || err != api.OK {
				t.Errorf("Story(%v, %q) = %v, %d, want %v", f, sku, got, err, want)
			}
			told += len(want)
		}
		for _, sku := range append(sample.WrongSkus(), "") {
			if got, err := compact.Story(f, sku); len(got) != 0 || err != api.ErrSku {
				t.Errorf("Story(%v, %q) = %v, %d", f, sku, got, err)
			}
		}
	}
	if told < 1000 {
		t.Errorf("only %d fates are told", told)
	}
}

func TestStoriesExamples(t *testing.T) { // P13.2
	for sku, want := range map[string][]api.Fate{
		"A": {{Dot: dot(0, 1), Kind: api.FateGone, Recs: 1}, {Dot: dot(0, 2), Kind: api.FateBarred, Recs: 1}},
		"B": {{Dot: dot(1, 1), Kind: api.FateLive}},
		"C": nil,
	} {
		if got, err := compact.Story(example(), sku); !slices.Equal(got, want) || err != api.OK {
			t.Errorf("Story(f, %q) = %v, %d, want %v", sku, got, err, want)
		}
		if got, err := compact.Story(api.Facts{}, sku); len(got) != 0 || err != api.OK {
			t.Errorf("Story(nothing, %q) = %v, %d", sku, got, err)
		}
	}
	for _, sku := range []string{"a", "", " A"} {
		if got, err := compact.Story(example(), sku); len(got) != 0 || err != api.ErrSku {
			t.Errorf("Story(f, %q) = %v, %d", sku, got, err)
		}
	}
}

func TestFateAndStorySayTheSame(t *testing.T) { // P13.2
	for _, f := range mixed(500) {
		var live []api.Entry
		for _, e := range f.Adds {
			fate, err := compact.Fate(f, e.Dot)
			story, _ := compact.Story(f, e.Sku)
			if !slices.Contains(story, fate) || err != api.OK {
				t.Errorf("of %v: Fate(%v) = %v, %d, Story(%q) = %v", f, e.Dot, fate, err, e.Sku, story)
			}
			if fate.Kind == api.FateLive {
				live = append(live, e)
			}
		}
		if state := compacted(t, f); !slices.Equal(live, state.Live) {
			t.Errorf("of %v Fate says that %v are live, Compact %v", f, live, state.Live)
		}
	}
}

func TestSpent(t *testing.T) { // P13.2
	for _, f := range mixed(1000) {
		want := spentOf(f)
		if got, err := compact.Spent(f); got != want || err != api.OK {
			t.Errorf("Spent(%v) = %v, %d, want %v", f, got, err, want)
		}
	}
	for _, c := range []struct {
		f    api.Facts
		want api.Spent
	}{
		{example(), api.Spent{Adds: 2, Gone: 2, Recs: 1}}, {api.Facts{}, api.Spent{}}, {waiting(), api.Spent{Adds: 1}}, {joined(t, waiting(), rest()), api.Spent{Adds: 2, Recs: 1}},
		{api.Facts{Gone: pa(slices.Repeat([]int{api.MaxNum}, 16)), Recs: rs(re("", []int{1}), re("A", []int{1}))}, api.Spent{Gone: 16 * api.MaxNum, Recs: 2}},
	} {
		if got, err := compact.Spent(c.f); got != c.want || err != api.OK {
			t.Errorf("Spent(%v) = %v, %d, want %v", c.f, got, err, c.want)
		}
	}
}

func TestTheStoryOfVeryMany(t *testing.T) { // P13.2
	const count = 60000
	var f api.Facts
	var wide api.Past
	for i := range count {
		f.Adds = append(f.Adds, en(1, 3*i+2, "A", 1))
		// Every other add is gone, every third one is covered.
		if i%2 == 0 {
			f.Gone.Cloud = append(f.Gone.Cloud, sp(1, 3*i+2, 3*i+2))
		}
		if i%3 == 0 {
			wide.Cloud = append(wide.Cloud, sp(1, 3*i+2, 3*i+2))
		}
	}
	f.Recs = rs(api.Record{Past: wide}, api.Record{Sku: "A", Past: wide}, api.Record{Sku: "B", Past: wide})
	story, err := compact.Story(f, "A")
	if len(story) != count || err != api.OK {
		t.Fatalf("%d fates, %d", len(story), err)
	}
	kinds := [6]int{api.FateGone, api.FateLive, api.FateGone, api.FateBarred, api.FateGone, api.FateLive}
	for i, got := range story {
		want := api.Fate{Dot: dot(1, 3*i+2), Kind: kinds[i%6]}
		if i%3 == 0 {
			want.Recs = 2
		}
		if got != want {
			t.Fatalf("the fate %d is %v, want %v", i, got, want)
		}
	}
	if got, err := compact.Spent(f); got != (api.Spent{Adds: count * 2 / 3, Gone: count / 2, Recs: 3}) || err != api.OK {
		t.Errorf("Spent = %v, %d", got, err)
	}
	if s := compacted(t, f); len(s.Live) != count/3 || !compact.Same(f, s) || !same(compacted(t, pruned(t, f)), s) {
		t.Errorf("%d are live, or Same or Prune isn't right", len(s.Live))
	}
}
