package acks_test

import (
	"slices"
	"testing"

	"barrow/acks"
	"barrow/memcheck"
)

// filled: a table in which each peer has another number.
func filled(reps, self int) (*acks.Table, []int) {
	table, _ := acks.New(reps, self)
	want := make([]int, reps)
	for peer := range reps {
		if peer != self {
			want[peer] = 100 + peer
			table.Heard(peer, want[peer])
		}
	}
	return table, want
}

func TestAnsweredListsAreNewMemory(t *testing.T) { // R7
	for reps := 1; reps <= 16; reps++ {
		for self := range reps {
			table, want := filled(reps, self)
			if memcheck.Shared([]memcheck.Region{memcheck.Numbers(table.All()), memcheck.Numbers(table.All()), memcheck.Numbers(table.All())}) {
				t.Errorf("two answers of All share memory")
			}
			if got := table.All(); !slices.Equal(got, want) {
				t.Errorf("behind a write into All's answer it is %v, want %v", got, want)
			}
		}
	}
}

func TestAnsweredListsStay(t *testing.T) { // R7
	for reps := 2; reps <= 16; reps++ {
		table, want := filled(reps, 1)
		list := table.All()
		whole := memcheck.Numbers(list)
		table.Heard(0, 5000)
		table.Plan(0, 5, 6000)
		table.Reset()
		if memcheck.Changed([]memcheck.Region{whole}, nil) || !slices.Equal(list, want) {
			t.Errorf("All answered %v, and later it is %v", want, list)
		}
	}
}

// What is written into one table's answers is lost on another table too.
func TestTablesShareNoMemory(t *testing.T) { // P17.3, R7
	one, want := filled(16, 3)
	two, _ := filled(16, 3)
	if memcheck.Shared([]memcheck.Region{memcheck.Numbers(one.All()), memcheck.Numbers(two.All())}) {
		t.Error("the answers of two tables share memory")
	}
	two.Heard(0, 5000)
	two.Reset()
	if got := one.All(); !slices.Equal(got, want) {
		t.Errorf("calls on another table make it %v, want %v", got, want)
	}
}
