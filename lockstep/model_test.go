package lockstep_test

import (
	"math"
	"math/rand/v2"

	"barrow/api"
	"barrow/known"
	"barrow/sample"
)

func newDice() *rand.Rand { return rand.New(rand.NewPCG(55, 56)) }

// head is that of the chapter's example.
func head() api.Header {
	return api.Header{Reps: 2, Carts: 1, Lines: 10, Count: 100, Log: 8, Tokens: 4}
}

func set(rep int, sku string, qty int) api.Op {
	return api.Op{Kind: api.OpSet, Rep: rep, Sku: sku, Qty: qty}
}

func line(sku string, qty, parts int) api.Line { return api.Line{Sku: sku, Qty: qty, Parts: parts} }

// anyHead: one whose limits are soon reached, or one of several replicas.
func anyHead(dice *rand.Rand) api.Header {
	if dice.IntN(2) == 0 {
		return sample.TightHead(dice.IntN)
	}
	return sample.RoomyHead(dice.IntN)
}

// scripts: over heads at their bounds and thrown ones.
func scripts(count int) []api.Script {
	dice := newDice()
	var all []api.Script
	for _, h := range sample.EdgeHeads() {
		all = append(all, known.Thrown(dice.IntN, h, 40), api.Script{Head: h})
	}
	for range count {
		all = append(all, known.Thrown(dice.IntN, anyHead(dice), dice.IntN(120)))
	}
	return all
}

// noReplicas: numbers that are none's of a store with so many.
func noReplicas(reps int) []int {
	return []int{math.MinInt, -1 << 32, -2, -1, reps, reps + 1, 16, 17, 64, 1 << 32, math.MaxInt}
}

// answers: unlike in one thing each from the first, and from one another.
func answers() []api.Answer {
	full := api.Answer{Status: api.ErrRep, Lines: []api.Line{line("A", 5, 1), line("B", 2, 2)}, Token: 3, Msg: 4}
	all := []api.Answer{full}
	for _, change := range []func(a *api.Answer){
		func(a *api.Answer) { a.Status = api.OK },
		func(a *api.Answer) { a.Status = -1 },
		func(a *api.Answer) { a.Token = 0 },
		func(a *api.Answer) { a.Token = -3 },
		func(a *api.Answer) { a.Msg = 0 },
		func(a *api.Answer) { a.Msg = 3 },
		func(a *api.Answer) { a.Token, a.Msg = a.Msg, a.Token },
		func(a *api.Answer) { a.Lines = nil },
		func(a *api.Answer) { a.Lines = a.Lines[:1] },
		func(a *api.Answer) { a.Lines = []api.Line{line("B", 2, 2), line("A", 5, 1)} },
		func(a *api.Answer) { a.Lines = []api.Line{line("A", 5, 1), line("B", 2, 2), line("B", 2, 2)} },
		func(a *api.Answer) { a.Lines = []api.Line{line("A", 5, 1), line("B", 2, 1)} },
		func(a *api.Answer) { a.Lines = []api.Line{line("A", 5, 1), line("B", 3, 2)} },
		func(a *api.Answer) { a.Lines = []api.Line{line("A", 5, 1), line("b", 2, 2)} },
		func(a *api.Answer) { a.Lines = []api.Line{line("", 5, 1), line("B", 2, 2)} },
		func(a *api.Answer) { *a = api.Answer{} },
	} {
		a := full
		change(&a)
		all = append(all, a)
	}
	return all
}
