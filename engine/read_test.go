package engine_test

import (
	"slices"
	"testing"

	"barrow/api"
	"barrow/sample"
)

func (w world[S]) checkRead(t *testing.T, list []S, workers int, want [][]api.Line, wantErr api.Errno) {
	t.Helper()
	if got, err := w.read(list, workers); !sameLists(got, want) || err != wantErr {
		t.Errorf("%s: Read(%v, %d workers) = %v, %d, want %v, %d", w.name, list, workers, got, err, want, wantErr)
	}
}

// checkReads: lists of up to 40 states, and the same with one out of form at any place.
func checkReads[S any](t *testing.T, w world[S]) {
	t.Helper()
	dice := newDice()
	mixed, wrong := w.mixed(dice.IntN, 300), w.wrong()
	for range 150 {
		list := thrownList(dice.IntN, mixed, 40)
		want := mapped(list, w.toldOf)
		bad := slices.Insert(slices.Clone(list), dice.IntN(len(list)+1), wrong[dice.IntN(len(wrong))])
		for _, workers := range numbersOfWorkers() {
			w.checkRead(t, list, workers, want, api.OK)
			w.checkRead(t, bad, workers, nil, api.ErrForm)
		}
	}
	for _, s := range wrong {
		w.checkRead(t, []S{s}, 1, nil, api.ErrForm)
	}
	for _, workers := range numbersOfWorkers() {
		w.checkRead(t, nil, workers, nil, api.OK)
		w.checkRead(t, mixed, workers, mapped(mixed, w.toldOf), api.OK)
	}
}

func TestRead(t *testing.T) { // P15.3, R8
	checkReads(t, tombs())
	checkReads(t, swots())
}

func TestReadsExamples(t *testing.T) { // P15.3
	two := es(en(0, 1, "A", 5), en(1, 1, "A", 2))
	want := [][]api.Line{{{Sku: "A", Qty: 7, Parts: 2}}, nil}
	for _, workers := range numbersOfWorkers() {
		tombs().checkRead(t, []api.Facts{{Adds: two}, {}}, workers, want, api.OK)
		swots().checkRead(t, []api.Swot{{Live: two, Past: pa([]int{1, 1})}, {}}, workers, want, api.OK)
		// States that clash are read like others, each by itself.
		tombs().checkRead(t, []api.Facts{{Adds: two}, added(en(0, 1, "B", 1)), {Adds: two, Gone: pa([]int{1}), Recs: rs(re("A", []int{0, 1}))}}, workers, [][]api.Line{want[0], {{Sku: "B", Qty: 1, Parts: 1}}, nil}, api.OK)
	}
}

func TestReadsOfBothEngines(t *testing.T) { // P15.4
	dice := newDice()
	all := sample.Facts(dice.IntN, 300)
	for range 300 {
		list := thrownList(dice.IntN, all, 30)
		one, err1 := tombs().read(list, dice.IntN(18))
		two, err2 := swots().read(mapped(list, sample.State), dice.IntN(18))
		if err1 != api.OK || err2 != api.OK || !sameLists(one, two) {
			t.Errorf("Read(%v) by Tomb = %v, %d, of their states by Swot %v, %d", list, one, err1, two, err2)
		}
	}
}
