package cart_test

import (
	"fmt"
	"slices"
	"testing"

	"barrow/api"
	"barrow/known"
	"barrow/past"
	"barrow/sample"
)

func TestRestartsChangeNoLaterAnswer(t *testing.T) { // P9
	dice := newDice()
	for range 60 {
		h := sample.TightHead(dice.IntN)
		s := known.Thrown(dice.IntN, h, 120)
		s.Ops = sample.Those(s.Ops, func(o api.Op) bool { return o.Kind != api.OpPush && o.Kind != api.OpRestart })
		for name, one := range both(h) {
			two := over(name, h)
			for _, o := range s.Ops {
				if dice.IntN(6) == 0 {
					ahead := fmt.Sprint(two.All())
					two.Step(api.Op{Kind: api.OpRestart, Rep: dice.IntN(h.Reps)})
					if fmt.Sprint(two.All()) != ahead {
						t.Fatalf("%s: a restart changes a read", name)
					}
				}
				if got, want := two.Step(o), one.Step(o); !sample.SameAnswer(got, want) {
					t.Fatalf("%s: %+v: %v with restarts, %v without", name, o, got, want)
				}
			}
			if fmt.Sprint(one.All(), one.Waiting()) != fmt.Sprint(two.All(), two.Waiting()) {
				t.Errorf("%s: restarts change what is read", name)
			}
		}
	}
}

func dotsOf(list []api.Entry) api.Past {
	var dots []api.Dot
	for _, e := range list {
		dots = append(dots, e.Dot)
	}
	return past.Of(dots)
}

func TestNothingLivesAgain(t *testing.T) { // P10
	dice := newDice()
	dead := 0
	for range 40 {
		s := known.Thrown(dice.IntN, sample.RoomyHead(dice.IntN), 150)
		for name, c := range both(s.Head) {
			died := map[[2]int]api.Past{}
			for _, o := range s.Ops {
				c.Step(o)
				for rep := range s.Head.Reps {
					for cart := range s.Head.Carts {
						at := [2]int{rep, cart}
						live, seen := dotsOf(right(c.Live(rep, cart))), right(c.Past(rep, cart))
						if again := past.Meet(died[at], live); !past.Empty(again) {
							t.Fatalf("%s: %+v: at replica %d, cart %d, %v lives again", name, o, rep, cart, again)
						}
						died[at] = past.Join(died[at], past.Minus(seen, live))
					}
				}
			}
			for _, p := range died {
				dead += past.Size(p)
			}
		}
	}
	if dead < 1000 {
		t.Errorf("only %d dots died", dead)
	}
}

// unseen: the adds of the facts whose dots no event and no record names.
func unseen(f api.Facts) []api.Entry {
	return sample.Those(f.Adds, func(e api.Entry) bool {
		named := slices.ContainsFunc(f.Recs, func(r api.Record) bool { return sample.Has(r.Past, e.Dot) })
		return !named && !sample.Has(f.Gone, e.Dot)
	})
}

func TestNothingIsRemovedThatWasntSeen(t *testing.T) { // P11
	dice := newDice()
	asked := 0
	for range 100 {
		s := known.Thrown(dice.IntN, sample.RoomyHead(dice.IntN), 120)
		slow := known.Played(s)
		for name, c := range both(s.Head) {
			for _, o := range s.Ops {
				c.Step(o)
			}
			for cart := range s.Head.Carts {
				for _, e := range unseen(slow.All(cart)) {
					for rep := range s.Head.Reps {
						if !past.Has(right(c.Past(rep, cart)), e.Dot) {
							continue
						}
						asked++
						if !slices.Contains(right(c.Live(rep, cart)), e) {
							t.Errorf("%s: at replica %d, cart %d, %v isn't live", name, rep, cart, e)
						}
					}
				}
			}
		}
	}
	if asked < 300 {
		t.Errorf("only %d entries", asked)
	}
}
