package cart_test

import (
	"fmt"
	"math"
	"math/rand/v2"
	"slices"
	"testing"

	"barrow/api"
	"barrow/cart"
	"barrow/engine"
	"barrow/known"
	"barrow/sample"
)

// errorsOf is the chapter's table: the errors of each kind, in their order.
func errorsOf() map[int][]api.Errno {
	return map[int][]api.Errno{
		api.OpSet:      {api.ErrRep, api.ErrCart, api.ErrSku, api.ErrQty, api.ErrFull, api.ErrCount},
		api.OpAdd:      {api.ErrRep, api.ErrCart, api.ErrSku, api.ErrQty, api.ErrFull, api.ErrOver, api.ErrCount},
		api.OpRemove:   {api.ErrRep, api.ErrCart, api.ErrSku, api.ErrAbsent},
		api.OpRemoveTo: {api.ErrRep, api.ErrToken, api.ErrSku},
		api.OpClear:    {api.ErrRep, api.ErrCart},
		api.OpClearTo:  {api.ErrRep, api.ErrToken},
		api.OpRead:     {api.ErrRep, api.ErrCart},
		api.OpSync:     {api.ErrRep, api.ErrSelf},
		api.OpFull:     {api.ErrRep, api.ErrSelf},
		api.OpAsk:      {api.ErrRep, api.ErrSelf},
		api.OpPush:     {api.ErrRep, api.ErrSelf, api.ErrArg},
		api.OpDeliver:  {api.ErrMsg, api.ErrBad},
		api.OpCopy:     {api.ErrMsg},
		api.OpDrop:     {api.ErrMsg},
		api.OpTrim:     {api.ErrMsg, api.ErrArg},
		api.OpRestart:  {api.ErrRep},
	}
}

// A tally counts what the steps of each kind came to, so that scripts are known to reach what they should.
type tally map[string]int

func (c tally) count(o api.Op, a api.Answer) {
	kind := o.Kind
	if errorsOf()[kind] == nil {
		kind = 0
	}
	c[outcome(kind, a.Status)]++
	if a.Msg > 0 {
		c[fmt.Sprint("kind ", kind, " makes a message")]++
	}
	if len(a.Lines) > 0 {
		c[fmt.Sprint("kind ", kind, " tells lines")]++
	}
}

func outcome(kind int, status api.Errno) string { return fmt.Sprint("kind ", kind, " status ", status) }

// outcomes: all that there can be.
func outcomes() []string {
	list := []string{outcome(0, api.ErrKind), "kind 7 tells lines"}
	for kind, errs := range errorsOf() {
		for _, err := range append(errs, api.OK) {
			list = append(list, outcome(kind, err))
		}
	}
	for _, kind := range []int{api.OpSync, api.OpFull, api.OpAsk, api.OpPush, api.OpDeliver, api.OpCopy} {
		list = append(list, fmt.Sprint("kind ", kind, " makes a message"))
	}
	return list
}

func (c tally) check(t *testing.T) {
	t.Helper()
	for _, word := range outcomes() {
		if c[word] < 5 {
			t.Errorf("the scripts come to %q %d times", word, c[word])
		}
	}
	if len(c) != len(outcomes()) {
		t.Errorf("the scripts come to what they can't: %v", c)
	}
}

func TestEveryScript(t *testing.T) { // P25.1, P2, P3
	dice := newDice()
	c := tally{}
	holes, waits := 0, 0
	for range 400 {
		s := known.Thrown(dice.IntN, sample.TightHead(dice.IntN), 150)
		x := newTrio(t, s.Head)
		x.check()
		for i, o := range s.Ops {
			c.count(o, x.play(o))
			if i%25 == 0 {
				x.check()
			}
		}
		x.check()
		h, w := insides(x.swots)
		holes, waits = holes+h, waits+w
	}
	c.check(t)
	if holes < 40 || waits < 100 {
		t.Errorf("at the ends of the scripts there are %d carts with holes, %d with waits", holes, waits)
	}
}

// insides: how many carts have a hole in what was heard, and in how many a remove waits.
func insides(c *swotCart) (int, int) {
	holes, waits := 0, 0
	for rep := range c.Head().Reps {
		for cart := range c.Head().Carts {
			s := right(c.State(rep, cart))
			holes += min(len(s.Past.Cloud), 1)
			waits += min(len(s.Defer), 1)
		}
	}
	return holes, waits
}

func TestLongScripts(t *testing.T) { // P25.1, P2, P3
	dice := newDice()
	for range 8 {
		s := known.Thrown(dice.IntN, sample.RoomyHead(dice.IntN), 600)
		x := newTrio(t, s.Head)
		x.playAll(s.Ops)
		x.check()
	}
}

func TestStacksSideBySide(t *testing.T) { // P25.1
	dice := newDice()
	var all []*trio
	var scripts []api.Script
	for range 6 {
		s := known.Thrown(dice.IntN, sample.TightHead(dice.IntN), 120)
		scripts = append(scripts, s)
		all = append(all, newTrio(t, s.Head))
	}
	for i := range 120 {
		for _, k := range dice.Perm(len(all)) {
			all[k].play(scripts[k].Ops[i])
		}
	}
	for _, x := range all {
		x.check()
	}
}

func TestRunAndStepTellTheSame(t *testing.T) { // P25.1
	dice := newDice()
	heads := sample.EdgeHeads()
	for range 40 {
		heads = append(heads, sample.TightHead(dice.IntN))
	}
	for _, h := range heads {
		s := known.Thrown(dice.IntN, h, dice.IntN(90))
		x := newTrio(t, h)
		var want []api.Answer
		for _, o := range s.Ops {
			want = append(want, x.play(o))
		}
		if got := cart.Run[api.Facts, engine.Tomb](s); !slices.EqualFunc(got, want, sample.SameAnswer) {
			t.Errorf("Run over Tomb = %v, want %v", got, want)
		}
		if got := cart.Run[api.Swot, engine.Swot](s); !slices.EqualFunc(got, want, sample.SameAnswer) {
			t.Errorf("Run over Swot = %v, want %v", got, want)
		}
	}
}

// clamped is the document's words on a head.
func clamped(h api.Header) api.Header {
	for _, f := range []struct {
		field       *int
		least, most int
	}{{&h.Reps, 1, 16}, {&h.Carts, 1, 64}, {&h.Lines, 1, 1000}, {&h.Count, 1, 1000000000}, {&h.Log, 0, 64}, {&h.Tokens, 0, 1000}} {
		*f.field = min(max(*f.field, f.least), f.most)
	}
	return h
}

func TestHeads(t *testing.T) { // P25.1
	dice := newDice()
	for _, h := range sample.EdgeHeads() {
		x := newTrio(t, h)
		if got := x.tombs.Head(); got != clamped(h) {
			t.Errorf("New(%v).Head() = %v, want %v", h, got, clamped(h))
		}
		x.check()
		x.playAll(known.Thrown(dice.IntN, h, 60).Ops)
		x.check()
		if got := x.swots.Head(); got != clamped(h) {
			t.Errorf("New(%v).Head() = %v behind a script, want %v", h, got, clamped(h))
		}
	}
}

// readyOps lead a stack of readyHead to where every error can be had: at replica 0 cart 0 has as many lines as it may and no dot is left; token 2 is held and token 1 isn't; message 1 is under way, message 2 is cut, message 3 is spent.
func readyOps() []api.Op {
	return []api.Op{
		{Kind: api.OpSet, Sku: "A", Qty: 5}, {Kind: api.OpSet, Sku: "A", Qty: 7}, {Kind: api.OpRead}, {Kind: api.OpRead},
		{Kind: api.OpSync, Rep: 0, To: 1}, {Kind: api.OpCopy, Num: 1}, {Kind: api.OpCopy, Num: 1}, {Kind: api.OpTrim, Num: 2, Qty: 1}, {Kind: api.OpDrop, Num: 3},
	}
}

func readyHead() api.Header {
	return api.Header{Reps: 3, Carts: 2, Lines: 1, Count: 2, Log: 1, Tokens: 1}
}

// slip makes the op wrong, so that it has that error. At replica 0 alone the cart is full and the dots are used up.
func slip(o *api.Op, err api.Errno, dice *rand.Rand) {
	one := func(list ...int) int { return list[dice.IntN(len(list))] }
	switch err {
	case api.ErrRep:
		strange := one(-1, 3, 15, 16, 64, math.MinInt, math.MaxInt)
		if dice.IntN(2) == 0 && slices.Contains(errorsOf()[o.Kind], api.ErrSelf) {
			o.To = strange
		} else {
			o.Rep = strange
		}
	case api.ErrCart:
		o.Cart = one(-1, 2, 63, 64, math.MinInt, math.MaxInt)
	case api.ErrSku:
		o.Sku = append(sample.WrongSkus(), "")[dice.IntN(len(sample.WrongSkus())+1)]
	case api.ErrQty:
		o.Qty = one(0, -1, api.MaxQty+1, math.MinInt, math.MaxInt)
	case api.ErrFull:
		o.Rep, o.Sku = 0, "B"
	case api.ErrOver:
		o.Rep, o.Qty = 0, api.MaxQty-6
	case api.ErrCount:
		o.Rep = 0
	case api.ErrAbsent:
		o.Sku = "B"
	case api.ErrToken:
		o.Num = one(1, 0, -1, 3, math.MinInt, math.MaxInt)
	case api.ErrSelf:
		o.To = o.Rep
	case api.ErrMsg:
		o.Num = one(0, -1, 3, 4, math.MinInt, math.MaxInt)
	case api.ErrBad:
		o.Num = 2
	case api.ErrArg:
		if o.Kind == api.OpTrim {
			o.Qty = one(0, -1, math.MinInt)
		} else {
			o.Num = one(-1, 1, 2, math.MinInt, math.MaxInt)
		}
	}
}

// rightOp: an op of the kind that isn't refused on a ready stack, but that Set and Add at replica 0 have no dot left.
func rightOp(kind int) api.Op {
	o := api.Op{Kind: kind, Rep: 0, To: 1, Cart: 0, Sku: "A", Qty: 1}
	switch kind {
	case api.OpSet, api.OpAdd:
		o.Rep = 1
	case api.OpRemoveTo, api.OpClearTo:
		o.Num = 2
	case api.OpDeliver, api.OpCopy, api.OpDrop, api.OpTrim:
		o.Num = 1
	}
	return o
}

// wrongOp: an op of the kind with some of its errors in it, and the first of them.
func wrongOp(dice *rand.Rand, kind int) (api.Op, api.Errno) {
	o, first := rightOp(kind), api.OK
	// The later ones come first, so that an earlier one is the last to write.
	for _, err := range slices.Backward(errorsOf()[kind]) {
		if dice.IntN(2) == 0 {
			slip(&o, err, dice)
			first = err
		}
	}
	return o, first
}

func TestTheFirstErrorIsAnswered(t *testing.T) { // P25.1, R3
	dice := newDice()
	seen := map[string]int{}
	for kind := api.OpSet; kind <= api.OpPush; kind++ {
		for range 600 {
			o, want := wrongOp(dice, kind)
			for name, c := range both(readyHead()) {
				for _, ready := range readyOps() {
					if a := c.Step(ready); a.Status != api.OK {
						t.Fatalf("%s: %+v answers %v", name, ready, a)
					}
				}
				a := c.Step(o)
				if a.Status != want || want != api.OK && (len(a.Lines) > 0 || a.Token != 0 || a.Msg != 0) {
					t.Errorf("%s: %+v answers %v, want %d", name, o, a, want)
				}
			}
			seen[outcome(kind, want)]++
		}
	}
	for kind, errs := range errorsOf() {
		for _, err := range append(errs, api.OK) {
			if seen[outcome(kind, err)] < 3 {
				t.Errorf("%s is asked for %d times", outcome(kind, err), seen[outcome(kind, err)])
			}
		}
	}
}

func TestKindsThatThereArent(t *testing.T) { // P25.1
	for _, kind := range []int{0, -1, 17, 18, 99, 1 << 32, 1<<32 + 1, math.MinInt, math.MaxInt} {
		for name, c := range both(readyHead()) {
			ahead := tell(c)
			if a := c.Step(api.Op{Kind: kind, Sku: "A", Qty: 5, Num: 1, To: 1}); !sample.SameAnswer(a, api.Answer{Status: api.ErrKind}) || tell(c) != ahead {
				t.Errorf("%s: kind %d answers %v", name, kind, a)
			}
		}
	}
}

// usedFields is the chapter's table: the fields of each kind.
func usedFields(o api.Op) api.Op {
	p := api.Op{Kind: o.Kind}
	k := o.Kind
	message := api.OpDeliver <= k && k <= api.OpTrim
	if !message {
		p.Rep = o.Rep
	}
	if k <= api.OpAdd || k == api.OpRemove || k == api.OpClear || k == api.OpRead {
		p.Cart = o.Cart
	}
	if k <= api.OpRemoveTo {
		p.Sku = o.Sku
	}
	if k <= api.OpAdd || k == api.OpTrim {
		p.Qty = o.Qty
	}
	if api.OpSync <= k && k <= api.OpAsk || k == api.OpPush {
		p.To = o.To
	}
	if message || k == api.OpRemoveTo || k == api.OpClearTo || k == api.OpPush {
		p.Num = o.Num
	}
	return p
}

func TestUnusedFieldsHaveNoMeaning(t *testing.T) { // P25.1
	dice := newDice()
	for range 40 {
		s := known.Thrown(dice.IntN, sample.TightHead(dice.IntN), 120)
		for name, one := range both(s.Head) {
			two := over(name, s.Head)
			for _, o := range s.Ops {
				if got, want := one.Step(o), two.Step(usedFields(o)); !sample.SameAnswer(got, want) {
					t.Fatalf("%s: %+v answers %v, without the fields that it doesn't use %v", name, o, got, want)
				}
			}
			if tell(one) != tell(two) {
				t.Errorf("%s: fields that aren't used tell", name)
			}
		}
	}
}
