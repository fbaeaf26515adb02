package engine_test

import (
	"slices"
	"testing"

	"barrow/api"
	"barrow/compact"
	"barrow/past"
	"barrow/sample"
)

func (w world[S]) checkFold(t *testing.T, list []S, workers int, want S, wantErr api.Errno) {
	t.Helper()
	if got, err := w.fold(list, workers); !w.same(got, want) || err != wantErr {
		t.Errorf("%s: Fold(%v, %d workers) = %v, %d, want %v, %d", w.name, list, workers, got, err, want, wantErr)
	}
}

// checkFolds: lists of up to 20 states, of which none clash, some may, or some are out of form.
func checkFolds[S any](t *testing.T, w world[S]) {
	t.Helper()
	dice := newDice()
	alike, mixed, wrong := w.alike(dice.IntN, 200), w.mixed(dice.IntN, 200), w.wrong()
	byErr := map[api.Errno]int{}
	for i := range 160 {
		list := thrownList(dice.IntN, alike, 20)
		switch i % 4 {
		case 1:
			list = append(list, thrownList(dice.IntN, mixed, 8)...)
		case 2:
			list = append(thrownList(dice.IntN, mixed, 8), wrong[dice.IntN(len(wrong))])
		}
		want, wantErr := w.folded(list)
		for _, workers := range numbersOfWorkers() {
			w.checkFold(t, list, workers, want, wantErr)
		}
		w.checkFold(t, shuffled(dice, list), dice.IntN(17), want, wantErr)
		w.checkFold(t, shuffled(dice, list), dice.IntN(17), want, wantErr)
		byErr[wantErr]++
	}
	if byErr[api.OK] < 60 || byErr[api.ErrClash] < 15 || byErr[api.ErrForm] < 40 {
		t.Errorf("%s: too few of one kind: %v", w.name, byErr)
	}
}

func TestFold(t *testing.T) { // P15.2, R8
	checkFolds(t, tombs())
	checkFolds(t, swots())
}

// checkFew: no state, and one, in form or not.
func checkFew[S any](t *testing.T, w world[S]) {
	t.Helper()
	var none S
	for _, workers := range numbersOfWorkers() {
		w.checkFold(t, nil, workers, none, api.OK)
		w.checkFold(t, []S{}, workers, none, api.OK)
		for _, s := range w.mixed(newDice().IntN, 30) {
			w.checkFold(t, []S{s}, workers, s, api.OK)
			w.checkFold(t, []S{s, s, s}, workers, s, api.OK)
		}
		for _, s := range w.wrong() {
			w.checkFold(t, []S{s}, workers, none, api.ErrForm)
			w.checkFold(t, []S{none, s, none}, workers, none, api.ErrForm)
		}
	}
}

func TestFoldOfFew(t *testing.T) { // P15.2
	checkFew(t, tombs())
	checkFew(t, swots())
}

func TestFoldsExamples(t *testing.T) { // P15.2
	a5, b2, a6 := en(0, 1, "A", 5), en(1, 1, "B", 2), en(0, 1, "A", 6)
	first, second, third := api.Swot{Live: es(a5), Past: pa([]int{1})}, api.Swot{Live: es(b2), Past: pa([]int{0, 1})}, api.Swot{Past: pa([]int{1})}
	for _, workers := range numbersOfWorkers() {
		tombs().checkFold(t, []api.Facts{added(a5), added(b2), gone(1)}, workers, api.Facts{Adds: es(a5, b2), Gone: pa([]int{1})}, api.OK)
		swots().checkFold(t, []api.Swot{first, second, third}, workers, api.Swot{Live: es(b2), Past: pa([]int{1, 1})}, api.OK)
		swots().checkFold(t, []api.Swot{first, third, {Live: es(a6), Past: pa([]int{1})}}, workers, api.Swot{}, api.ErrClash)
		swots().checkFold(t, []api.Swot{first, third, {Live: es(a6), Past: pa([]int{0})}}, workers, api.Swot{}, api.ErrForm)
		// An add of facts counts whether it lives or not; of compact states what isn't live is no clash.
		tombs().checkFold(t, []api.Facts{{Adds: es(a5), Gone: pa([]int{1})}, {}, {Adds: es(a6), Recs: rs(re("", []int{1}))}}, workers, api.Facts{}, api.ErrClash)
		swots().checkFold(t, []api.Swot{third, second, {Live: es(a6), Past: pa([]int{1})}}, workers, api.Swot{Live: es(b2), Past: pa([]int{1, 1})}, api.OK)
	}
}

// checkHidden: two states that clash, at any two places of the list, while all others hold what ends the dot.
func checkHidden[S any](t *testing.T, w world[S]) {
	t.Helper()
	const count = 7
	var none S
	for i := range count {
		for j := range count {
			for _, e := range es(en(0, 1, "A", 6), en(0, 1, "B", 5), en(0, 1, "A", 5)) {
				list := slices.Repeat([]S{w.of(gone(1)), w.of(gone(1, 1)), w.of(api.Facts{Recs: rs(re("", []int{2}))})}, count)[:count]
				list[i], list[j] = w.of(added(en(0, 1, "A", 5))), w.of(added(e))
				want, err := none, api.ErrClash
				if i == j || e.Qty == 5 && e.Sku == "A" {
					want, err = w.folded(list)
				}
				for workers := range count + 2 {
					w.checkFold(t, list, workers, want, err)
				}
			}
		}
	}
}

func TestFoldFindsEveryClash(t *testing.T) { // P15.2
	checkHidden(t, tombs())
	checkHidden(t, swots())
}

// checkFormFirst: a state out of form, at any place, counts ahead of a clash at any other places.
func checkFormFirst[S any](t *testing.T, w world[S]) {
	t.Helper()
	var none S
	for _, bad := range append(w.wrong()[:5], w.wrong()[len(w.wrong())-5:]...) {
		for i := range 9 {
			list := slices.Repeat([]S{w.of(added(en(0, 1, "A", 5))), w.of(added(en(0, 1, "A", 6))), none}, 3)
			list[i] = bad
			for workers := range 11 {
				w.checkFold(t, list, workers, none, api.ErrForm)
			}
		}
	}
}

func TestFormCountsAheadOfClash(t *testing.T) { // P15.2
	checkFormFirst(t, tombs())
	checkFormFirst(t, swots())
}

// checkVeryMany: more states than workers by far; their answer is known.
func checkVeryMany[S any](t *testing.T, w world[S]) {
	t.Helper()
	const count = 3000
	var list []S
	for n := range count {
		list = append(list, w.of(added(en(n%16, 1+n/16, "A", 1+n))))
	}
	for n := range count / 2 {
		list = append(list, w.of(api.Facts{Gone: past.Of([]api.Dot{{Rep: n % 16, Num: 1 + n/16}})}))
	}
	want := w.of(union(mapped(list, w.facts)))
	for _, workers := range []int{1, 2, 16} {
		w.checkFold(t, shuffled(newDice(), list), workers, want, api.OK)
	}
	var none S
	w.checkFold(t, append(list, w.of(added(en(0, 1, "A", 7)))), 16, none, api.ErrClash)
}

func TestFoldOfVeryMany(t *testing.T) { // P15.2
	checkVeryMany(t, tombs())
	checkVeryMany(t, swots())
}

// checkCuts: each half folded, and the two folds joined, wherever the list is cut.
func checkCuts[S any](t *testing.T, w world[S]) {
	t.Helper()
	dice := newDice()
	alike := w.alike(dice.IntN, 200)
	for range 60 {
		list := thrownList(dice.IntN, alike, 14)
		want, err := w.fold(list, 3)
		if err != api.OK {
			t.Errorf("%s: Fold(%v) = %d", w.name, list, err)
		}
		for at := range len(list) + 1 {
			a, err1 := w.fold(list[:at], 1+at%4)
			b, err2 := w.fold(list[at:], 2)
			got, err3 := w.join(a, b)
			if err1 != api.OK || err2 != api.OK || err3 != api.OK || !w.same(got, want) {
				t.Errorf("%s: %v cut at %d folds to %v and %v, joined %v (%d, %d, %d), whole %v", w.name, list, at, a, b, got, err1, err2, err3, want)
			}
		}
	}
}

func TestFoldOfTwoHalves(t *testing.T) { // P15.5
	checkCuts(t, tombs())
	checkCuts(t, swots())
}

func TestFoldsOfBothEngines(t *testing.T) { // P15.4
	dice := newDice()
	alike := append(sample.AlikeFacts(dice.IntN, 300), gone(2, 1), api.Facts{Recs: rs(re("A", []int{4, 4}))})
	for range 400 {
		list := thrownList(dice.IntN, alike, 16)
		states := mapped(list, sample.State)
		facts, err1 := tombs().fold(list, dice.IntN(18))
		got, err2 := swots().fold(states, dice.IntN(18))
		want, err3 := compact.Compact(facts)
		if err1 != api.OK || err2 != api.OK || err3 != api.OK || !sample.SameSwot(got, want) || !sample.SameSwot(got, sample.State(facts)) {
			t.Errorf("the Fold of the states of %v = %v, %d, the state of the Fold %v, %d, %d", list, got, err2, want, err1, err3)
		}
	}
}
