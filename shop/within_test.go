package shop

import (
	"slices"
	"sync"
	"testing"

	"barrow/api"
)

// The stacks never part, so that what is told then can be asked from within alone.
func TestReportOfStacksThatPart(t *testing.T) { // P29.3
	told := []api.Answer{{Msg: 1}, {Lines: []api.Line{{Sku: "A", Qty: 5, Parts: 2}}, Token: 1}}
	for _, c := range []struct {
		r    api.Report
		want string
	}{
		{api.Report{Answers: told, At: 2, Sends: 9}, "1 ok message 1\n2 ok token 1\n  A 5 in 2\nthe stacks part at step 2\n"},
		{api.Report{Answers: told, Sends: 9}, "1 ok message 1\n2 ok token 1\n  A 5 in 2\nsteps 2 messages 9\n"},
		{api.Report{Answers: told[:1], At: 1}, "1 ok message 1\nthe stacks part at step 1\n"},
		{api.Report{}, "steps 0 messages 0\n"},
	} {
		if got := report(c.r); got != c.want {
			t.Errorf("report(%v) = %q, want %q", c.r, got, c.want)
		}
	}
}

// Every place is given out once, rising, whoever asks.
func TestQueue(t *testing.T) { // P29.4
	for _, end := range []int{0, 1, 2, 200000} {
		q := &queue{end: end}
		taken := make([][]int, 16)
		var group sync.WaitGroup
		for i := range taken {
			group.Add(1)
			go func() {
				defer group.Done()
				for at, left := q.take(); left; at, left = q.take() {
					taken[i] = append(taken[i], at)
				}
			}()
		}
		group.Wait()
		all := slices.Concat(taken...)
		for _, list := range taken {
			if !slices.IsSorted(list) {
				t.Errorf("one worker took a place twice, or one behind another")
			}
		}
		slices.Sort(all)
		if len(all) != end || len(slices.Compact(all)) != end || end > 0 && (all[0] != 0 || all[end-1] != end-1) {
			t.Errorf("of %d places %d were taken", end, len(all))
		}
		if at, left := q.take(); at != 0 || left {
			t.Errorf("behind the end: %d, %t", at, left)
		}
	}
}
