package vector_test

import (
	"slices"
	"testing"

	"barrow/api"
	"barrow/vector"
)

func TestMergeAndMeet(t *testing.T) { // P3.3
	pairs(120, func(a, b []int) {
		greater := form(func(rep int) int { return max(number(a, rep), number(b, rep)) })
		if got := vector.Merge(a, b); !same(got, greater) {
			t.Errorf("Merge(%v, %v) = %v, want %v", a, b, got, greater)
		}
		smaller := form(func(rep int) int { return min(number(a, rep), number(b, rep)) })
		if got := vector.Meet(a, b); !same(got, smaller) {
			t.Errorf("Meet(%v, %v) = %v, want %v", a, b, got, smaller)
		}
	})
	a, b := []int{1, 5}, []int{2, 3, 4}
	if got := vector.Merge(a, b); !same(got, []int{2, 5, 4}) {
		t.Errorf("Merge(%v, %v) = %v", a, b, got)
	}
	if got := vector.Meet(a, b); !same(got, []int{1, 3}) {
		t.Errorf("Meet(%v, %v) = %v", a, b, got)
	}
}

func TestMergeAndMeetOfAnyNumber(t *testing.T) { // P3.3
	if got := vector.Merge(); len(got) != 0 {
		t.Errorf("Merge of no vectors = %v", got)
	}
	if got := vector.Meet(); len(got) != 0 {
		t.Errorf("Meet of no vectors = %v", got)
	}
	for _, v := range samples(200) {
		if got := vector.Merge(v); !same(got, inForm(v)) {
			t.Errorf("Merge(%v) = %v", v, got)
		}
		if got := vector.Meet(v); !same(got, inForm(v)) {
			t.Errorf("Meet(%v) = %v", v, got)
		}
	}
	all := samples(120)
	for i := range len(all) - 4 {
		vs := all[i : i+4]
		at := func(rep int) []int {
			var numbers []int
			for _, v := range vs {
				numbers = append(numbers, number(v, rep))
			}
			return numbers
		}
		if got, want := vector.Merge(vs...), form(func(rep int) int { return slices.Max(at(rep)) }); !same(got, want) {
			t.Errorf("Merge(%v) = %v, want %v", vs, got, want)
		}
		if got, want := vector.Meet(vs...), form(func(rep int) int { return slices.Min(at(rep)) }); !same(got, want) {
			t.Errorf("Meet(%v) = %v, want %v", vs, got, want)
		}
	}
	five := [][]int{{1}, {2}, {0, 1}, {2}, {}}
	if got := vector.Merge(five...); !same(got, []int{2, 1}) {
		t.Errorf("Merge(%v) = %v", five, got)
	}
	if got := vector.Meet(five...); len(got) != 0 {
		t.Errorf("Meet(%v) = %v", five, got)
	}
}

// has: are all dots of b's vector a's too?
func has(a, b []int) bool { return stand(b, a) == api.Before || stand(b, a) == api.Same }

func TestMergeIsTheLeastAndMeetTheGreatest(t *testing.T) { // P3.3
	all := samples(15)
	pairs(15, func(a, b []int) {
		upper, lower := vector.Merge(a, b), vector.Meet(a, b)
		if !has(upper, a) || !has(upper, b) || !has(a, lower) || !has(b, lower) {
			t.Errorf("%v and %v: Merge %v, Meet %v", a, b, upper, lower)
		}
		for _, c := range all {
			if has(c, a) && has(c, b) && !has(c, upper) {
				t.Errorf("Merge(%v, %v) = %v is not the least: %v", a, b, upper, c)
			}
			if has(a, c) && has(b, c) && !has(lower, c) {
				t.Errorf("Meet(%v, %v) = %v is not the greatest: %v", a, b, lower, c)
			}
		}
	})
}

func TestOrder(t *testing.T) { // P3.3
	seen := map[int]int{}
	pairs(200, func(a, b []int) {
		want := stand(a, b)
		if got := vector.Order(a, b); got != want {
			t.Errorf("Order(%v, %v) = %d, want %d", a, b, got, want)
		}
		seen[want]++
	})
	if len(seen) != 4 {
		t.Errorf("of the four orders were seen: %v", seen)
	}
	for _, c := range []struct {
		a, b []int
		want int
	}{
		{[]int{1, 5}, []int{2, 3, 4}, api.Apart}, {[]int{1}, []int{1, 0, 2}, api.Before}, {[]int{0, 0}, nil, api.Same}, {[]int{1, 0, 2}, []int{1}, api.After},
		{lastPlace(1), []int{1}, api.Apart}, {lastPlace(1), lastPlace(2), api.Before}, {append(lastPlace(1), 9), append(lastPlace(1), 1), api.Same}, {[]int{most}, []int{greatInt}, api.Same}, {[]int{most - 1}, []int{greatInt}, api.Before}, {[]int{-1}, []int{-2}, api.Same},
	} {
		if got := vector.Order(c.a, c.b); got != c.want {
			t.Errorf("Order(%v, %v) = %d, want %d", c.a, c.b, got, c.want)
		}
	}
}

func TestBehind(t *testing.T) { // P3.3
	pairs(150, func(a, b []int) {
		var want []api.Span
		for rep := range reps {
			if number(b, rep) > number(a, rep) {
				want = append(want, api.Span{Rep: rep, Lo: number(a, rep) + 1, Hi: number(b, rep)})
			}
		}
		if got := vector.Behind(a, b); !slices.Equal(got, want) {
			t.Errorf("Behind(%v, %v) = %v, want %v", a, b, got, want)
		}
	})
	a, b := []int{1, 5}, []int{2, 3, 4}
	if got := vector.Behind(a, b); !slices.Equal(got, []api.Span{{Rep: 0, Lo: 2, Hi: 2}, {Rep: 2, Lo: 1, Hi: 4}}) {
		t.Errorf("Behind(%v, %v) = %v", a, b, got)
	}
	if got := vector.Behind(b, a); !slices.Equal(got, []api.Span{{Rep: 1, Lo: 4, Hi: 5}}) {
		t.Errorf("Behind(%v, %v) = %v", b, a, got)
	}
	if got := vector.Behind([]int{leastInt}, []int{greatInt}); !slices.Equal(got, []api.Span{{Rep: 0, Lo: 1, Hi: most}}) {
		t.Errorf("Behind of nothing and all = %v", got)
	}
}

func TestCompare(t *testing.T) { // P3.4
	pairs(200, func(a, b []int) {
		got, want := vector.Compare(a, b), comparison(a, b)
		if got != want || vector.Compare(b, a) != -want {
			t.Errorf("Compare(%v, %v) = %d, %d the other way, want %d", a, b, got, vector.Compare(b, a), want)
		}
		if vector.Order(a, b) == api.Before && got != -1 {
			t.Errorf("Compare(%v, %v) = %d, and Order is Before", a, b, got)
		}
		if (got == 0) != same(inForm(a), inForm(b)) {
			t.Errorf("Compare(%v, %v) = %d", a, b, got)
		}
	})
	for _, c := range []struct {
		a, b []int
		want int
	}{
		{[]int{1, 5}, []int{2, 3, 4}, -1}, {[]int{3}, []int{1, 2}, 1}, {[]int{1, 2}, []int{1, 2, 0}, 0}, {lastPlace(1), []int{1}, -1},
		{[]int{0, 3}, []int{1}, 1}, {repeated(greatInt, 16), repeated(most, 17), 0}, {append(lastPlace(0), 5), nil, 0},
	} {
		if got := vector.Compare(c.a, c.b); got != c.want {
			t.Errorf("Compare(%v, %v) = %d, want %d", c.a, c.b, got, c.want)
		}
	}
}

func TestCompareIsTotal(t *testing.T) { // P3.4
	all := samples(30)
	pairs(30, func(a, b []int) {
		for _, c := range all {
			if vector.Compare(a, b) < 0 && vector.Compare(b, c) < 0 && vector.Compare(a, c) >= 0 {
				t.Errorf("%v is ahead of %v, that of %v, but the first isn't ahead of the last", a, b, c)
			}
		}
	})
}

// lowestFirst: the lists in form, by taking the least one over and over.
func lowestFirst(vs [][]int) [][]int {
	left := slices.Clone(vs)
	var out [][]int
	for len(left) > 0 {
		least := 0
		for i := range left {
			if comparison(left[i], left[least]) < 0 {
				least = i
			}
		}
		out = append(out, inForm(left[least]))
		left = slices.Delete(left, least, least+1)
	}
	return out
}

func TestSort(t *testing.T) { // P3.4
	all := samples(300)
	for size := range 40 {
		for from := 0; from+size <= len(all); from += 29 {
			vs := all[from : from+size]
			if got, want := vector.Sort(vs), lowestFirst(vs); !sameLists(got, want) {
				t.Errorf("Sort(%v) = %v, want %v", vs, got, want)
			}
		}
	}
	for _, c := range []struct{ vs, want [][]int }{
		{nil, nil}, {[][]int{{3}, {1, 2}, {0, 1}}, [][]int{{0, 1}, {1, 2}, {3}}}, {[][]int{nil, {1}, {0}, {1, -1}}, [][]int{{}, {}, {1}, {1}}},
	} {
		if got := vector.Sort(c.vs); !sameLists(got, c.want) {
			t.Errorf("Sort(%v) = %v, want %v", c.vs, got, c.want)
		}
	}
}

// latest is the chapter's definition of Heads, word by word.
func latest(vs [][]int) [][]int {
	var heads [][]int
	for _, v := range lowestFirst(vs) {
		isHead := !slices.ContainsFunc(vs, func(w []int) bool { return stand(v, w) == api.Before })
		told := slices.ContainsFunc(heads, func(w []int) bool { return same(v, w) })
		if isHead && !told {
			heads = append(heads, v)
		}
	}
	return heads
}

func TestHeads(t *testing.T) { // P3.5
	all := samples(300)
	for size := range 30 {
		for from := 0; from+size <= len(all); from += 17 {
			checkHeads(t, all[from:from+size])
		}
	}
	for _, c := range []struct{ vs, want [][]int }{
		{nil, nil}, {[][]int{}, nil}, {[][]int{nil}, [][]int{{}}}, {[][]int{{0}, {-1}, nil}, [][]int{{}}}, {[][]int{{1}, {2}, {0, 1}, {2}, {}}, [][]int{{0, 1}, {2}}},
		{[][]int{{greatInt}, {most}, {most - 1}}, [][]int{{most}}}, {[][]int{append(lastPlace(1), 9), append(lastPlace(1), 3)}, [][]int{lastPlace(1)}},
		{[][]int{{3, 1}, {1, 3}, {2, 2}, {2, 1}}, [][]int{{1, 3}, {2, 2}, {3, 1}}},
	} {
		if got, err := vector.Heads(c.vs); err != api.OK || !sameLists(got, c.want) {
			t.Errorf("Heads(%v) = %v, %d, want %v", c.vs, got, err, c.want)
		}
	}
}

func checkHeads(t *testing.T, vs [][]int) {
	t.Helper()
	heads, err := vector.Heads(vs)
	if want := latest(vs); err != api.OK || !sameLists(heads, want) {
		t.Errorf("Heads(%v) = %v, %d, want %v", vs, heads, err, want)
	}
	for _, v := range vs {
		if !slices.ContainsFunc(heads, func(w []int) bool { return has(w, v) }) {
			t.Errorf("Heads(%v) = %v: %v is neither a head nor Before one", vs, heads, v)
		}
	}
	for _, v := range heads {
		if slices.ContainsFunc(heads, func(w []int) bool { return stand(v, w) == api.Before }) {
			t.Errorf("Heads(%v) = %v: %v is Before another head", vs, heads, v)
		}
	}
	if got, want := vector.Merge(heads...), vector.Merge(vs...); !same(got, want) {
		t.Errorf("Heads(%v) = %v, whose Merge is %v, want %v", vs, heads, got, want)
	}
}

func TestHeadsOfVeryMany(t *testing.T) { // P3.5
	// Of these no one is Before another.
	var vs [][]int
	for i := range 256 {
		vs = append(vs, []int{i + 1, 256 - i})
	}
	if got, err := vector.Heads(vs); err != api.OK || !sameLists(got, vs) {
		t.Errorf("Heads of 256 = %v, %d", got, err)
	}
	if got, err := vector.Heads(append(vs, []int{1, 256})); err != api.ErrArg || len(got) != 0 {
		t.Errorf("Heads of 257 = %v, %d", got, err)
	}
	if got, err := vector.Heads(make([][]int, 257)); err != api.ErrArg || len(got) != 0 {
		t.Errorf("Heads of 257 empty ones = %v, %d", got, err)
	}
	if got, err := vector.Heads(make([][]int, 256)); err != api.OK || !sameLists(got, [][]int{{}}) {
		t.Errorf("Heads of 256 empty ones = %v, %d", got, err)
	}
}
