package audit_test

import (
	"fmt"
	"math/rand/v2"
	"runtime"
	"slices"
	"testing"
	"time"

	"barrow/api"
	"barrow/audit"
	"barrow/cart"
	"barrow/engine"
	"barrow/known"
	"barrow/sample"
	"barrow/settle"
)

// sizes: those of the states of the known facts.
func sizes(c *known.Stack) [][]api.Size {
	lists := make([][]api.Size, c.Head().Reps)
	for rep := range lists {
		for at := range c.Head().Carts {
			lists[rep] = append(lists[rep], size(sample.State(c.Facts(rep, at))))
		}
	}
	return lists
}

func same(a, b [][]api.Size) bool { return slices.EqualFunc(a, b, slices.Equal[[]api.Size]) }

// anyHead: one whose limits are soon reached, or one of several replicas.
func anyHead(dice *rand.Rand) api.Header {
	if dice.IntN(2) == 0 {
		return sample.TightHead(dice.IntN)
	}
	return sample.RoomyHead(dice.IntN)
}

func TestScript(t *testing.T) { // P27.3
	dice := newDice()
	heads := sample.EdgeHeads()
	for range 600 {
		heads = append(heads, anyHead(dice))
	}
	var holes, waits int
	for _, h := range heads {
		s := known.Thrown(dice.IntN, h, dice.IntN(120))
		got, want := audit.Script(s), sizes(known.Played(s))
		if !same(got, want) {
			t.Errorf("Script(%v) = %v, want %v", s, got, want)
		}
		for _, z := range slices.Concat(got...) {
			holes, waits = holes+z.Holes, waits+z.Waits
		}
	}
	if holes < 30 || waits < 100 {
		t.Errorf("only %d holes and %d waits", holes, waits)
	}
}

func set(rep int, sku string, qty int) api.Op {
	return api.Op{Kind: api.OpSet, Rep: rep, Sku: sku, Qty: qty}
}

func TestScriptExamples(t *testing.T) { // P27.3
	// Replica 0 has both adds, replica 1 the second one alone: its past has a hole.
	s := api.Script{Head: api.Header{Reps: 2, Carts: 1, Lines: 10, Count: 100, Log: 8, Tokens: 4}, Ops: []api.Op{set(0, "A", 1), set(0, "B", 2), {Kind: api.OpPush, To: 1}, {Kind: api.OpDeliver, Num: 1}, {Kind: api.OpRead, Rep: 1}}}
	want := [][]api.Size{{{Bytes: 19, Live: 2, Skus: 2}}, {{Bytes: 16, Live: 1, Skus: 1, Holes: 1}}}
	if got := audit.Script(s); !same(got, want) {
		t.Errorf("Script = %v, want %v", got, want)
	}
	// Nothing is told of what a replica hasn't heard of.
	s.Ops = s.Ops[:2]
	want[1] = []api.Size{{Bytes: 8}}
	if got := audit.Script(s); !same(got, want) {
		t.Errorf("Script = %v, want %v", got, want)
	}
	if got := audit.Script(api.Script{}); !same(got, [][]api.Size{{{Bytes: 8}}}) {
		t.Errorf("Script of nothing = %v", got)
	}
	for _, h := range []api.Header{{Reps: 99, Carts: 99}, {Reps: 16, Carts: 64}} {
		got := audit.Script(api.Script{Head: h})
		if len(got) != 16 || slices.ContainsFunc(got, func(list []api.Size) bool { return !slices.Equal(list, slices.Repeat([]api.Size{{Bytes: 8}}, 64)) }) {
			t.Errorf("Script of the head %v = %v", h, got)
		}
	}
}

// talked: the script, and behind it a full sync for each pair, each delivered.
func talked(s api.Script, dice *rand.Rand, pairs []api.Pair) api.Script {
	ops := slices.Clone(s.Ops)
	made := known.Played(s).Made()
	if dice.IntN(2) == 0 {
		// Each delivered at once; its acknowledgement has the number behind it.
		for i, o := range settle.Ops(pairs, true) {
			ops = append(ops, o, api.Op{Kind: api.OpDeliver, Num: made + 1 + 2*i})
		}
		return api.Script{Head: s.Head, Ops: ops}
	}
	// All under way at one time, delivered in any order.
	ops = append(ops, settle.Ops(pairs, true)...)
	for _, i := range dice.Perm(len(pairs)) {
		ops = append(ops, api.Op{Kind: api.OpDeliver, Num: made + 1 + i})
	}
	return api.Script{Head: s.Head, Ops: ops}
}

// checkSettled: what P27.4 says of the sizes behind the talk.
func checkSettled(t *testing.T, reps int, got [][]api.Size) {
	t.Helper()
	for rep, list := range got {
		if !slices.Equal(list, got[0]) {
			t.Errorf("replica %d has the sizes %v, replica 0 %v", rep, list, got[0])
		}
		for _, z := range list {
			if z.Holes != 0 || z.Waits != 0 || z.Bytes > audit.Bound(reps, z) {
				t.Errorf("behind the talk %v, the bound is %d", z, audit.Bound(reps, z))
			}
		}
	}
}

func TestBehindFullSyncsAllIsSettled(t *testing.T) { // P27.4, P6
	dice := newDice()
	heads := sample.EdgeHeads()
	for range 400 {
		heads = append(heads, anyHead(dice))
	}
	var live, unsettled int
	for _, h := range heads {
		s := known.Thrown(dice.IntN, h, dice.IntN(120))
		reps := len(audit.Script(s))
		for _, z := range slices.Concat(audit.Script(s)...) {
			unsettled += z.Holes + z.Waits
		}
		pairs := settle.Pairs(reps)
		dice.Shuffle(len(pairs), func(i, j int) { pairs[i], pairs[j] = pairs[j], pairs[i] })
		behind := talked(s, dice, pairs)
		got := audit.Script(behind)
		checkSettled(t, h.Reps, got)
		if want := sizes(known.Played(behind)); !same(got, want) {
			t.Errorf("behind the talk %v, want %v", got, want)
		}
		for _, z := range got[0] {
			live += z.Live
		}
	}
	if live < 100 || unsettled < 100 {
		t.Errorf("only %d live entries, and %d holes and waits ahead of the talk", live, unsettled)
	}
}

func TestBehindFairTalkStatesAreSettled(t *testing.T) { // P6, P4
	dice := newDice()
	for range 60 {
		s := settle.Extend(known.Thrown(dice.IntN, anyHead(dice), 120))
		checkSettled(t, s.Head.Reps, audit.Script(s))
		c := cart.New[api.Swot, engine.Swot](s.Head)
		for _, o := range s.Ops {
			c.Step(o)
		}
		for rep := range s.Head.Reps {
			for at := range s.Head.Carts {
				state, _ := c.State(rep, at)
				if !audit.Settled(s.Head.Reps, state) || len(audit.Faults(state)) > 0 {
					t.Errorf("behind the talk replica %d, cart %d: %v", rep, at, state)
				}
			}
		}
	}
}

func TestEveryStateOfAStackIsInForm(t *testing.T) { // P6, P27.1
	dice := newDice()
	for range 20 {
		s := known.Thrown(dice.IntN, anyHead(dice), 80)
		c := cart.New[api.Swot, engine.Swot](s.Head)
		for _, o := range s.Ops {
			c.Step(o)
			for rep := range s.Head.Reps {
				for at := range s.Head.Carts {
					if state, _ := c.State(rep, at); len(audit.Faults(state)) > 0 {
						t.Fatalf("behind %+v replica %d, cart %d: %v breaks %v", o, rep, at, state, audit.Faults(state))
					}
				}
			}
		}
	}
}

// The bound knows nothing of how many adds and removes there were.
func TestNothingGrowsWithWhatIsGone(t *testing.T) { // P27.4, P6
	h := api.Header{Reps: 3, Carts: 1, Lines: 10, Count: 1000, Log: 4, Tokens: 4}
	s := api.Script{Head: h}
	for i := range 300 {
		s.Ops = append(s.Ops, set(i%3, "A", 1+i), api.Op{Kind: api.OpClear, Rep: i % 3})
	}
	s.Ops = append(s.Ops, set(0, "LAST", 7))
	got := audit.Script(talked(s, newDice(), settle.Pairs(3)))
	checkSettled(t, 3, got)
	// 02; one entry (01 00 64 04 LAST 06); the past 101, 100, 100 (03 65 64 64 00); no record.
	if want := (api.Size{Bytes: 1 + 10 + 6 + 2, Live: 1, Skus: 4}); got[2][0] != want {
		t.Errorf("behind 301 adds and 300 clears %v, want %v", got[2][0], want)
	}
}

func TestScriptIsTheSameInEveryRun(t *testing.T) { // P27.3, R8
	defer runtime.GOMAXPROCS(runtime.GOMAXPROCS(0))
	s := known.Thrown(newDice().IntN, api.Header{Reps: 16, Carts: 5, Lines: 9, Count: 99, Log: 4, Tokens: 9}, 300)
	want := fmt.Sprint(sizes(known.Played(s)))
	for _, processors := range []int{1, 2, 3, 8} {
		runtime.GOMAXPROCS(processors)
		for range 10 {
			if got := fmt.Sprint(audit.Script(s)); got != want {
				t.Fatalf("on %d processors Script = %s, want %s", processors, got, want)
			}
		}
	}
}

func TestAllWorkersHaveEnded(t *testing.T) { // R8
	before := runtime.NumGoroutine()
	for _, reps := range []int{1, 2, 7, 16} {
		s := known.Thrown(newDice().IntN, api.Header{Reps: reps, Carts: 5, Lines: 9, Count: 99}, 50)
		for range 20 {
			audit.Script(s)
		}
		for end := time.Now().Add(5 * time.Second); runtime.NumGoroutine() > before && time.Now().Before(end); {
			runtime.Gosched()
		}
		if got := runtime.NumGoroutine(); got > before {
			t.Fatalf("%d goroutines are left, of %d replicas", got-before, reps)
		}
	}
}
