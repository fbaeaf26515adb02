package cart_test

import (
	"testing"

	"barrow/api"
	"barrow/cart"
	"barrow/engine"
	"barrow/known"
	"barrow/sample"
)

// checkRefused: a stack without the refused steps tells the same as one with them; a delivery with ErrBad spends its message, as a drop does.
func checkRefused[S any, E engine.Engine[S]](t *testing.T) {
	t.Helper()
	dice := newDice()
	refused := map[api.Errno]int{}
	for range 60 {
		s := known.Thrown(dice.IntN, sample.TightHead(dice.IntN), 150)
		one, two := cart.New[S, E](s.Head), cart.New[S, E](s.Head)
		for i, o := range s.Ops {
			ahead := ""
			if i%12 == 0 {
				ahead = tellAll(one)
			}
			a := one.Step(o)
			switch {
			case a.Status == api.OK:
				if b := two.Step(o); !sample.SameAnswer(a, b) {
					t.Fatalf("%+v: %v behind refused steps, %v without them", o, a, b)
				}
				continue
			case a.Status == api.ErrBad:
				two.Step(api.Op{Kind: api.OpDrop, Num: o.Num})
			case ahead != "" && tellAll(one) != ahead:
				t.Fatalf("%+v: %v, behind it\n%s\nahead\n%s", o, a, tellAll(one), ahead)
			}
			refused[a.Status]++
			if i%20 == 0 && tellAll(one) != tellAll(two) {
				t.Fatalf("%+v: behind refused steps\n%s\nwithout them\n%s", o, tellAll(one), tellAll(two))
			}
		}
		if tellAll(one) != tellAll(two) {
			t.Fatalf("behind refused steps\n%s\nwithout them\n%s", tellAll(one), tellAll(two))
		}
	}
	for _, err := range []api.Errno{api.ErrArg, api.ErrRep, api.ErrCart, api.ErrSku, api.ErrQty, api.ErrKind, api.ErrBad, api.ErrCount, api.ErrAbsent, api.ErrFull, api.ErrOver, api.ErrToken, api.ErrMsg, api.ErrSelf} {
		if refused[err] < 3 {
			t.Errorf("refused with %d: %d times", err, refused[err])
		}
	}
}

func TestARefusedStepChangesNothing(t *testing.T) { // P25.2, R4
	checkRefused[api.Facts, engine.Tomb](t)
	checkRefused[api.Swot, engine.Swot](t)
}

func TestARefusedDeliverySpendsItsMessage(t *testing.T) { // P25.2, P8
	for name, c := range both(head()) {
		for _, o := range []api.Op{set(0, "A", 5), sync(0, 1), {Kind: api.OpAsk, Rep: 0, To: 1}, {Kind: api.OpPush, Rep: 0, To: 1}, {Kind: api.OpFull, Rep: 0, To: 1}} {
			c.Step(o)
		}
		for n := 1; n <= 4; n++ {
			copied := c.Step(api.Op{Kind: api.OpCopy, Num: n}).Msg
			for range 3 {
				if a := c.Step(api.Op{Kind: api.OpTrim, Num: copied, Qty: 2}); a.Status != api.OK {
					t.Errorf("%s: Trim of a copy of %d: %v", name, n, a)
				}
			}
			made, seen := c.Made(), right(c.Past(1, 0))
			for _, want := range []api.Errno{api.ErrBad, api.ErrMsg} {
				if a := c.Step(deliver(copied)); !sample.SameAnswer(a, refusal(want)) {
					t.Errorf("%s: delivery of a cut copy of %d: %v, want %d", name, n, a, want)
				}
			}
			if c.Made() != made || !sample.SamePast(right(c.Past(1, 0)), seen) || len(right(c.Touched(1))) > 0 {
				t.Errorf("%s: a cut copy of %d does something", name, n)
			}
		}
	}
}
