package acks_test

import (
	"slices"
	"testing"

	"barrow/acks"
	"barrow/api"
)

// A told is a table that is asked, and the test that looks at its answers.
type told struct {
	*testing.T
	table *acks.Table
}

func (t told) of(peer, want int, wantErr api.Errno) {
	t.Helper()
	if got, err := t.table.Of(peer); got != want || err != wantErr {
		t.Errorf("Of(%d) = %d, %d", peer, got, err)
	}
}

func (t told) plan(peer, first, next int, want api.Plan, wantErr api.Errno) {
	t.Helper()
	if got, err := t.table.Plan(peer, first, next); got != want || err != wantErr {
		t.Errorf("Plan(%d, %d, %d) = %v, %d", peer, first, next, got, err)
	}
}

func (t told) heard(peer, hi int, want api.Errno) {
	t.Helper()
	if err := t.table.Heard(peer, hi); err != want {
		t.Errorf("Heard(%d, %d) = %d", peer, hi, err)
	}
}

func (t told) least(want int, wantAny bool) {
	t.Helper()
	if got, any := t.table.Least(); got != want || any != wantAny {
		t.Errorf("Least = %d, %t", got, any)
	}
}

func (t told) all(want ...int) {
	t.Helper()
	if got := t.table.All(); !slices.Equal(got, want) {
		t.Errorf("All = %v", got)
	}
}

func TestExamples(t *testing.T) { // P17.1
	table, _ := acks.New(3, 1)
	x := told{t, table}
	x.of(0, 0, api.OK)
	x.of(1, 0, api.ErrSelf)
	x.of(3, 0, api.ErrRep)
	x.plan(0, 0, 5, api.Plan{Lo: 0, Hi: 5}, api.OK)
	x.plan(0, 2, 5, api.Plan{Full: true, Lo: 0, Hi: 5}, api.OK)
	x.plan(0, 0, 0, api.Plan{}, api.OK)

	x.heard(0, 4, api.OK)
	x.heard(0, 2, api.OK)
	x.of(0, 4, api.OK)
	x.plan(0, 2, 5, api.Plan{Lo: 4, Hi: 5}, api.OK)
	x.plan(0, 4, 4, api.Plan{Lo: 4, Hi: 4}, api.OK)
	x.plan(0, 5, 7, api.Plan{Full: true, Hi: 7}, api.OK)
	x.plan(0, 0, 3, api.Plan{Full: true, Hi: 3}, api.OK)

	x.least(0, true)
	x.heard(2, 9, api.OK)
	x.least(4, true)
	x.all(4, 0, 9)

	x.heard(0, -1, api.ErrArg)
	x.heard(7, -1, api.ErrRep)
	x.plan(0, 3, 2, api.Plan{}, api.ErrArg)

	x.table.Reset()
	x.all(0, 0, 0)
	x.least(0, true)
}

func TestExamplesOfNew(t *testing.T) { // P17.1
	table, _ := acks.New(1, 0)
	one := told{t, table}
	one.least(0, false)
	one.all(0)
	for _, c := range []struct {
		reps, self int
		want       api.Errno
	}{{0, 0, api.ErrArg}, {17, 0, api.ErrArg}, {2, 2, api.ErrRep}, {2, -1, api.ErrRep}, {1, 0, api.OK}, {16, 15, api.OK}} {
		if table, err := acks.New(c.reps, c.self); err != c.want || (table == nil) != (err != api.OK) {
			t.Errorf("New(%d, %d) = %v, %d", c.reps, c.self, table, err)
		}
	}
}

func TestTheGreatestNumber(t *testing.T) { // P17.1
	table, _ := acks.New(2, 0)
	x := told{t, table}
	x.heard(1, 1<<62+1, api.ErrArg)
	x.heard(1, 1<<62, api.OK)
	x.of(1, 1<<62, api.OK)
	x.least(1<<62, true)
	x.plan(1, 1<<62, 1<<62, api.Plan{Lo: 1 << 62, Hi: 1 << 62}, api.OK)
	x.plan(1, 0, 1<<62, api.Plan{Lo: 1 << 62, Hi: 1 << 62}, api.OK)
	x.plan(1, 0, 1<<62-1, api.Plan{Full: true, Hi: 1<<62 - 1}, api.OK)
	x.plan(1, 0, 1<<62+1, api.Plan{}, api.ErrArg)
}
