package tomb_test

import (
	"slices"
	"testing"

	"barrow/api"
	"barrow/lines"
	"barrow/past"
	"barrow/sample"
	"barrow/tomb"
)

func TestCheck(t *testing.T) { // P10.1
	for _, f := range mixed(300) {
		if got := tomb.Check(f); got != api.OK {
			t.Errorf("Check(%v) = %d", f, got)
		}
	}
	for _, f := range sample.WrongFacts() {
		if got := tomb.Check(f); got != api.ErrForm {
			t.Errorf("Check(%v) = %d", f, got)
		}
	}
	for _, c := range []struct {
		f    api.Facts
		want api.Errno
	}{
		{api.Facts{}, api.OK}, {f(), api.OK}, {g(), api.OK}, {api.Facts{Adds: es(en(1, 1, "A", 5), en(0, 1, "A", 5))}, api.ErrForm}, {gone(0), api.ErrForm}, {rec("A"), api.ErrForm}, {rec("a", 1), api.ErrForm},
		// A dot may stand in Adds and in Gone, and Gone and the records may have dots that no add has.
		{api.Facts{Adds: es(en(0, 1, "A", 5)), Gone: pa([]int{1, 7}), Recs: rs(re("B", []int{1, 8}))}, api.OK},
	} {
		if got := tomb.Check(c.f); got != c.want {
			t.Errorf("Check(%v) = %d, want %d", c.f, got, c.want)
		}
	}
}

func TestLive(t *testing.T) { // P10.1
	some := 0
	for _, f := range mixed(1500) {
		got, err := tomb.Live(f)
		if !slices.Equal(got, live(f)) || err != api.OK || lines.Check(got) != api.OK {
			t.Errorf("Live(%v) = %v, %d, want %v", f, got, err, live(f))
		}
		if len(got) > 0 && len(got) < len(f.Adds) {
			some++
		}
		for _, e := range got {
			if p, _ := tomb.Past(f); !past.Has(p, e.Dot) {
				t.Errorf("%v of %v is live and not heard of", e, f)
			}
		}
	}
	if some < 100 {
		t.Errorf("of only %d facts some adds are live and others aren't", some)
	}
}

func TestPast(t *testing.T) { // P10.1
	for _, f := range mixed(400) {
		got, err := tomb.Past(f)
		if !past.IsNorm(got) || err != api.OK {
			t.Errorf("Past(%v) = %v, %d", f, got, err)
		}
		for _, d := range sample.Dots() {
			if past.Has(got, d) != heard(f, d) {
				t.Errorf("Past(%v) = %v: %v", f, got, d)
			}
		}
	}
}

func TestLivesAndPastsExamples(t *testing.T) { // P10.1
	barred := api.Facts{Adds: es(en(0, 1, "A", 5), en(0, 2, "B", 1), en(0, 3, "A", 2)), Recs: rs(re("", []int{1}), re("A", nil, sp(0, 3, 3)))}
	for _, c := range []struct {
		f    api.Facts
		live []api.Entry
		past api.Past
	}{
		{f(), es(en(0, 2, "B", 2), en(1, 1, "A", 1)), pa([]int{2, 1})}, {g(), nil, pa(nil)}, {joined(t, f(), g()), es(en(0, 2, "B", 2)), pa([]int{2, 1})}, {joined(t, h(), g()), nil, pa(nil, sp(1, 2, 2))},
		{api.Facts{}, nil, pa(nil)}, {gone(3), nil, pa([]int{3})}, {barred, es(en(0, 2, "B", 1)), pa([]int{3})}, {joined(t, h(), rec("B", 0, 2)), es(en(1, 2, "A", 7)), pa(nil, sp(1, 2, 2))},
		{joined(t, h(), gone(0, 1)), es(en(1, 2, "A", 7)), pa([]int{0, 2})},
	} {
		if got, err := tomb.Live(c.f); !slices.Equal(got, c.live) || err != api.OK {
			t.Errorf("Live(%v) = %v, %d, want %v", c.f, got, err, c.live)
		}
		if got, err := tomb.Past(c.f); !sample.SamePast(got, c.past) || err != api.OK {
			t.Errorf("Past(%v) = %v, %d, want %v", c.f, got, err, c.past)
		}
	}
}

func TestLiveAndPastOutOfForm(t *testing.T) { // P10.1
	for _, f := range sample.WrongFacts() {
		if got, err := tomb.Live(f); len(got) != 0 || err != api.ErrForm {
			t.Errorf("Live(%v) = %v, %d", f, got, err)
		}
		if got, err := tomb.Past(f); !sample.SamePast(got, api.Past{}) || err != api.ErrForm {
			t.Errorf("Past(%v) = %v, %d", f, got, err)
		}
	}
}

func TestJoin(t *testing.T) { // P10.2
	clashes := 0
	for _, a := range mixed(40) {
		for _, b := range mixed(40) {
			got, err := tomb.Join(a, b)
			if _, clash := clashing(a, b); clash {
				clashes++
				if !isZero(got) || err != api.ErrClash {
					t.Errorf("Join(%v, %v) = %v, %d", a, b, got, err)
				}
			} else if !isUnion(got, a, b) || err != api.OK {
				t.Errorf("Join(%v, %v) = %v, %d", a, b, got, err)
			}
			if back, backErr := tomb.Join(b, a); !same(back, got) || backErr != err {
				t.Errorf("Join(%v, %v) = %v, %d, the other way %v, %d", a, b, got, err, back, backErr)
			}
		}
		if got, err := tomb.Join(a, a); !same(got, a) || err != api.OK {
			t.Errorf("Join of %v with itself = %v, %d", a, got, err)
		}
		if got, err := tomb.Join(a, api.Facts{}); !same(got, a) || err != api.OK {
			t.Errorf("Join of %v with nothing = %v, %d", a, got, err)
		}
	}
	if clashes < 100 {
		t.Errorf("only %d clashes", clashes)
	}
}

func TestJoinsExamples(t *testing.T) { // P10.2
	five, six, b5 := en(0, 1, "A", 5), en(0, 1, "A", 6), en(0, 1, "B", 5)
	with := func(e api.Entry, vec ...int) api.Facts { return api.Facts{Adds: es(e), Gone: pa(vec)} }
	for _, c := range []struct {
		a, b, want api.Facts
		err        api.Errno
	}{
		{f(), g(), api.Facts{Adds: f().Adds, Gone: pa([]int{1}), Recs: g().Recs}, api.OK}, {add(five), add(six), api.Facts{}, api.ErrClash}, {add(five), add(b5), api.Facts{}, api.ErrClash},
		{with(five, 1), with(six, 1), api.Facts{}, api.ErrClash}, {joined(t, add(five), rec("", 1)), joined(t, add(six), rec("", 1)), api.Facts{}, api.ErrClash}, {add(five), gone(1), with(five, 1), api.OK}, {with(five, 1), add(six), api.Facts{}, api.ErrClash},
		{rec("A", 1), rec("A", 2), api.Facts{Recs: rs(re("A", []int{1}), re("A", []int{2}))}, api.OK}, {api.Facts{Gone: pa(nil, sp(0, 2, 3))}, gone(1), gone(3), api.OK}, {api.Facts{}, api.Facts{}, api.Facts{}, api.OK},
		// That an argument isn't in form comes ahead of a clash.
		{add(five), api.Facts{Adds: es(six), Recs: rs(re("a", []int{1}))}, api.Facts{}, api.ErrForm}, {with(five, 0), add(six), api.Facts{}, api.ErrForm},
	} {
		if got, err := tomb.Join(c.a, c.b); !same(got, c.want) || err != c.err {
			t.Errorf("Join(%v, %v) = %v, %d, want %v, %d", c.a, c.b, got, err, c.want, c.err)
		}
	}
}

func TestJoinOutOfForm(t *testing.T) { // P10.2
	right := []api.Facts{{}, f(), add(en(0, 1, "A", 6))}
	for _, wrong := range sample.WrongFacts() {
		for _, other := range append(right, wrong) {
			for _, pair := range [][2]api.Facts{{wrong, other}, {other, wrong}} {
				if got, err := tomb.Join(pair[0], pair[1]); !isZero(got) || err != api.ErrForm {
					t.Errorf("Join(%v, %v) = %v, %d", pair[0], pair[1], got, err)
				}
			}
		}
	}
}

func TestJoinIsAssociative(t *testing.T) { // P10.2, P12
	all := alike(t, 14)
	for _, a := range all {
		for _, b := range all {
			for _, c := range all {
				one, two := joined(t, joined(t, a, b), c), joined(t, a, joined(t, b, c))
				if !same(one, two) {
					t.Errorf("%v, %v, %v joined from the left are %v, from the right %v", a, b, c, one, two)
				}
			}
		}
	}
}

func TestAJoinIsTheLeastThatBothAreWithin(t *testing.T) { // P10.2
	all := alike(t, 14)
	above := 0
	for _, a := range all {
		for _, b := range all {
			j := joined(t, a, b)
			if !within(a, j) || !within(b, j) {
				t.Errorf("Join(%v, %v) = %v: one of the two isn't within it", a, b, j)
			}
			for _, c := range all {
				if within(a, c) && within(b, c) {
					above++
					if !within(j, c) {
						t.Errorf("Join(%v, %v) = %v isn't within %v, and both are", a, b, j, c)
					}
				}
			}
		}
	}
	if above < 100 {
		t.Errorf("only %d that two are within", above)
	}
}

// checkLiveBehind: what P10.3 says of the join of a and b.
func checkLiveBehind(t *testing.T, a, b api.Facts) {
	t.Helper()
	j := joined(t, a, b)
	got, err := tomb.Live(j)
	var want []api.Entry
	for _, e := range j.Adds {
		either := slices.Contains(live(a), e) || slices.Contains(live(b), e)
		if either && !removed(a, e) && !removed(b, e) {
			want = append(want, e)
		}
	}
	if !slices.Equal(got, want) || err != api.OK {
		t.Errorf("what is live in the join of %v and %v: %v, %d, want %v", a, b, got, err, want)
	}
	for _, e := range a.Adds {
		if removed(a, e) && slices.Contains(got, e) {
			t.Errorf("%v isn't live in %v and is again behind the join with %v", e, a, b)
		}
	}
	p, err := tomb.Past(j)
	for _, d := range sample.Dots() {
		if past.Has(p, d) != (heard(a, d) || heard(b, d)) || err != api.OK {
			t.Errorf("%v is heard of in the join of %v and %v: %t, %d", d, a, b, past.Has(p, d), err)
		}
	}
}

func TestWhatIsLiveBehindAJoin(t *testing.T) { // P10.3
	all := alike(t, 40)
	for _, a := range all {
		for _, b := range all {
			checkLiveBehind(t, a, b)
		}
	}
}
