package engine_test

import (
	"slices"
	"testing"

	"barrow/api"
	"barrow/codec"
	"barrow/engine"
	"barrow/memcheck"
	"barrow/sample"
)

type region = memcheck.Region

// given is what the calls of engine are handed.
type given struct {
	facts  []api.Facts
	states []api.Swot
	d      api.Digest
	b      []byte
}

func (g given) roomy() given {
	return given{sample.RoomyFactsList(g.facts), sample.RoomySwotList(g.states), sample.RoomyDigest(g.d), sample.RoomyBytes(g.b)}
}

func (g given) memory() []region {
	return slices.Concat(memcheck.FactsList(g.facts), memcheck.SwotList(g.states), memcheck.Digest(g.d), []region{memcheck.Bytes(g.b)})
}

// A caller makes a call of engine and tells the memory of all that it answers.
type caller struct {
	name string
	call func(g given) []region
}

// methods: the callers of an engine's methods, on the first states of a list.
func methods[S any, E engine.Engine[S]](name string, list func(g given) []S, memory func(s S) []region) []caller {
	var e E
	state := func(s S, _ api.Errno) []region { return memory(s) }
	at := func(g given, i int) S {
		if l := list(g); i < len(l) {
			return l[i]
		}
		return e.Empty()
	}
	return []caller{
		{name + ".Empty", func(g given) []region { return memory(e.Empty()) }},
		{name + ".Check", func(g given) []region { e.Check(at(g, 0)); return nil }},
		{name + ".Event", func(g given) []region {
			if len(g.facts) == 0 {
				return nil
			}
			return state(e.Event(g.facts[0]))
		}},
		{name + ".Join", func(g given) []region { return state(e.Join(at(g, 0), at(g, 1))) }},
		{name + ".Join with nothing", func(g given) []region { return state(e.Join(at(g, 0), e.Empty())) }},
		{name + ".Live", func(g given) []region { live, _ := e.Live(at(g, 0)); return []region{memcheck.Entries(live)} }},
		{name + ".Past", func(g given) []region { p, _ := e.Past(at(g, 0)); return memcheck.Past(p) }},
		{name + ".Digest", func(g given) []region { d, _ := e.Digest(at(g, 0)); return memcheck.Digest(d) }},
		{name + ".Lack", func(g given) []region { return state(e.Lack(at(g, 0), g.d)) }},
		{name + ".Lack for nobody", func(g given) []region { return state(e.Lack(at(g, 0), api.Digest{})) }},
		{name + ".Pack", func(g given) []region { b, _ := e.Pack(at(g, 0)); return []region{memcheck.Bytes(b)} }},
		{name + ".Unpack", func(g given) []region { return state(e.Unpack(g.b)) }},
	}
}

// joins: the callers of what is done with many states at once.
func joins[S any](w world[S], list func(g given) []S, memory func(s S) []region) []caller {
	state := func(s S, _ api.Errno) []region { return memory(s) }
	lists := func(l [][]api.Line, _ api.Errno) []region { return memcheck.LineLists(l) }
	return []caller{
		{w.name + ": Fold by one", func(g given) []region { return state(w.fold(list(g), 1)) }},
		{w.name + ": Fold by three", func(g given) []region { return state(w.fold(list(g), 3)) }},
		{w.name + ": Fold of one", func(g given) []region { return state(w.fold(list(g)[:min(1, len(list(g)))], 2)) }},
		{w.name + ": Read by one", func(g given) []region { return lists(w.read(list(g), 1)) }},
		{w.name + ": Read by three", func(g given) []region { return lists(w.read(list(g), 3)) }},
		{w.name + ": Replay", func(g given) []region { return state(w.replay(g.facts)) }},
		{w.name + ": Replay of one", func(g given) []region { return state(w.replay(g.facts[:min(1, len(g.facts))])) }},
	}
}

func callers() []caller {
	facts := func(g given) []api.Facts { return g.facts }
	states := func(g given) []api.Swot { return g.states }
	return slices.Concat(
		methods[api.Facts, engine.Tomb]("Tomb", facts, memcheck.Facts), joins(tombs(), facts, memcheck.Facts),
		methods[api.Swot, engine.Swot]("Swot", states, memcheck.Swot), joins(swots(), states, memcheck.Swot),
	)
}

// manyGiven: short lists of all kinds: of events and of other facts, that clash and don't, in form and not; some states stand in a list twice.
func manyGiven() []given {
	dice := newDice()
	digests := manyDigests()
	all := []given{{}}
	for i := range 150 {
		facts, states := sample.AlikeFacts(dice.IntN, 3), sample.AlikeSwots(dice.IntN, 3)
		switch i % 5 {
		case 1:
			facts = append(facts, facts[0])
			states = append(states, states[0])
		case 2:
			facts = sample.AlikeEvents(dice.IntN, 4)
		case 3:
			edges := sample.EdgeSwots()
			facts, states = append(facts, sample.EdgeEvents()[i%10]), append(states, edges[dice.IntN(len(edges))])
		case 4:
			facts, states = append(facts, sample.WrongFacts()[i]), append(states, sample.WrongSwots()[i])
		}
		b, _ := codec.PutFacts(facts[0])
		if i%2 == 0 {
			b, _ = codec.PutSwot(states[0])
		}
		all = append(all, given{facts, states, digests[i%len(digests)], b})
	}
	return all
}

func TestNothingHandedInIsChanged(t *testing.T) { // P15.6, R7
	all := manyGiven()
	for _, c := range callers() {
		for _, g := range all {
			mine := g.roomy()
			before := mine.memory()
			if memcheck.Changed(before, c.call(mine)) {
				t.Errorf("%s of %v: the call, or a write into its answer, changes what was handed in", c.name, g)
			}
		}
	}
}

func TestNoTwoAnswersShareMemory(t *testing.T) { // P15.6, R7
	all := manyGiven()
	for _, c := range callers() {
		for _, g := range all {
			mine := g.roomy()
			if memcheck.Shared(slices.Concat(c.call(mine), c.call(mine))) {
				t.Errorf("%s of %v: a write into one answer changes another", c.name, g)
			}
		}
	}
}
