package cart_test

import (
	"bytes"
	"fmt"
	"iter"
	"math/rand/v2"
	"slices"
	"testing"

	"barrow/api"
	"barrow/cart"
	"barrow/engine"
	"barrow/known"
	"barrow/mail"
	"barrow/sample"
)

type (
	tombCart = cart.Cart[api.Facts, engine.Tomb]
	swotCart = cart.Cart[api.Swot, engine.Swot]
)

func newTomb(h api.Header) *tombCart { return cart.New[api.Facts, engine.Tomb](h) }

func newSwot(h api.Header) *swotCart { return cart.New[api.Swot, engine.Swot](h) }

// A stack is what is seen of one, whatever its states are.
type stack interface {
	Head() api.Header
	Step(o api.Op) api.Answer
	View(rep, cart int) ([]api.Line, api.Errno)
	Live(rep, cart int) ([]api.Entry, api.Errno)
	Past(rep, cart int) (api.Past, api.Errno)
	All() [][][]api.Line
	Touched(rep int) ([]int, api.Errno)
	Waiting() []int
	Made() int
	Look(n int) (api.Letter, api.Errno)
}

// over: a new stack over the engine of that name.
func over(name string, h api.Header) stack {
	if name == "Tomb" {
		return newTomb(h)
	}
	return newSwot(h)
}

// both: a new stack over each engine.
func both(h api.Header) iter.Seq2[string, stack] {
	return func(yield func(name string, c stack) bool) {
		_ = yield("Tomb", over("Tomb", h)) && yield("Swot", over("Swot", h))
	}
}

func newDice() *rand.Rand { return rand.New(rand.NewPCG(49, 50)) }

// right: the answer of a call that must not fail.
func right[T any](answer T, err api.Errno) T {
	if err != api.OK {
		panic(fmt.Sprint("error ", err))
	}
	return answer
}

// around: 0 to n - 1, and numbers that lie beside them.
func around(n int) []int {
	list := []int{-1 << 63, -1, n, n + 1, 64, 1<<63 - 1}
	for i := range n {
		list = append(list, i)
	}
	return list
}

// tell: all that the stack's calls tell, but for its states.
func tell(c stack) string {
	var b bytes.Buffer
	h := c.Head()
	fmt.Fprintf(&b, "%v made %d waiting %v all %v", h, c.Made(), c.Waiting(), c.All())
	for _, rep := range around(h.Reps) {
		touched, err := c.Touched(rep)
		fmt.Fprintf(&b, "\nreplica %d: touched %v %d", rep, touched, err)
		for _, cart := range around(h.Carts) {
			told, err := c.View(rep, cart)
			live, errLive := c.Live(rep, cart)
			seen, errSeen := c.Past(rep, cart)
			fmt.Fprintf(&b, "\n cart %d: %v %d, %v %d, %v %d", cart, told, err, live, errLive, seen, errSeen)
		}
	}
	for _, n := range around(c.Made() + 2) {
		l, err := c.Look(n)
		fmt.Fprintf(&b, "\nmessage %d: %d from %d to %d %x", n, err, l.From, l.To, l.Bytes)
	}
	return b.String()
}

// tellAll: its states too.
func tellAll[S any, E engine.Engine[S]](c *cart.Cart[S, E]) string {
	text := tell(c)
	for _, rep := range around(c.Head().Reps) {
		for _, cart := range around(c.Head().Carts) {
			state, err := c.State(rep, cart)
			text += fmt.Sprintf("\nreplica %d, cart %d: %v %d", rep, cart, state, err)
		}
	}
	return text
}

// A trio is a stack over each engine, and the slow one of the document's words.
type trio struct {
	*testing.T
	tombs *tombCart
	swots *swotCart
	slow  *known.Stack
}

func newTrio(t *testing.T, h api.Header) *trio {
	return &trio{t, newTomb(h), newSwot(h), known.New(h)}
}

// play: the answer, which must be the same of all three.
func (x *trio) play(o api.Op) api.Answer {
	x.Helper()
	one, two, want := x.tombs.Step(o), x.swots.Step(o), x.slow.Step(o)
	if !sample.SameAnswer(one, want) || !sample.SameAnswer(two, want) {
		x.Fatalf("%+v: Tomb answers %v, Swot %v, want %v", o, one, two, want)
	}
	return want
}

func (x *trio) playAll(ops []api.Op) {
	x.Helper()
	for _, o := range ops {
		x.play(o)
	}
}

// check: what the calls tell is what the known facts give.
func (x *trio) check() {
	x.Helper()
	x.checkReads(x.tombs)
	x.checkReads(x.swots)
	for rep := range x.slow.Head().Reps {
		for cart := range x.slow.Head().Carts {
			want := sample.State(x.slow.Facts(rep, cart))
			f, s := right(x.tombs.State(rep, cart)), right(x.swots.State(rep, cart))
			if (engine.Tomb{}).Check(f) != api.OK || !sample.SameSwot(sample.State(f), want) || !sample.SameSwot(s, want) {
				x.Fatalf("replica %d, cart %d: the states %v and %v, want %v", rep, cart, f, s, want)
			}
		}
	}
	for _, n := range x.slow.Waiting() {
		checkMail[api.Facts, engine.Tomb](x, n, right(x.tombs.Look(n)), sample.State)
		checkMail[api.Swot, engine.Swot](x, n, right(x.swots.Look(n)), func(s api.Swot) api.Swot { return s })
	}
}

func (x *trio) checkReads(c stack) {
	x.Helper()
	if c.Head() != x.slow.Head() || c.Made() != x.slow.Made() || !slices.Equal(c.Waiting(), x.slow.Waiting()) {
		x.Fatalf("Head %v, Made %d, Waiting %v, want %v, %d, %v", c.Head(), c.Made(), c.Waiting(), x.slow.Head(), x.slow.Made(), x.slow.Waiting())
	}
	all := c.All()
	for rep := range c.Head().Reps {
		if got, want := right(c.Touched(rep)), x.slow.Touched(rep); !slices.Equal(got, want) {
			x.Fatalf("Touched(%d) = %v, want %v", rep, got, want)
		}
		for cart := range c.Head().Carts {
			told, live, seen := right(c.View(rep, cart)), right(c.Live(rep, cart)), right(c.Past(rep, cart))
			if want := x.slow.Lines(rep, cart); !slices.Equal(told, want) || !slices.Equal(all[rep][cart], want) {
				x.Fatalf("replica %d, cart %d: %v is read, and %v in All, want %v", rep, cart, told, all[rep][cart], want)
			}
			if !slices.Equal(live, x.slow.Live(rep, cart)) || !sample.SamePast(seen, x.slow.Past(rep, cart)) {
				x.Fatalf("replica %d, cart %d: live %v over %v, want %v over %v", rep, cart, live, seen, x.slow.Live(rep, cart), x.slow.Past(rep, cart))
			}
		}
	}
	if len(all) != c.Head().Reps || len(all[0]) != c.Head().Carts {
		x.Fatalf("All tells of %d replicas and %d carts", len(all), len(all[0]))
	}
}

// checkMail: the letter's bytes say what the slow stack's message says.
func checkMail[S any, E engine.Engine[S]](x *trio, n int, l api.Letter, state func(s S) api.Swot) {
	x.Helper()
	want, _ := x.slow.Look(n)
	if l.From != want.From || l.To != want.To {
		x.Fatalf("message %d goes from %d to %d, want %d to %d", n, l.From, l.To, want.From, want.To)
	}
	m, err := mail.Get(l.Bytes)
	if err != api.OK || !want.Whole {
		if err == api.OK || want.Whole {
			x.Fatalf("message %d: %x is %d, whole %t", n, l.Bytes, err, want.Whole)
		}
		return
	}
	got := known.Mail{Kind: m.Kind, From: m.From, To: m.To, Lo: m.Lo, Hi: m.Hi, Carts: mail.Carts(m), Whole: true}
	if fmt.Sprint(got) != fmt.Sprint(want) {
		x.Fatalf("message %d is the mail %v, want %v", n, got, want)
	}
	if m.Kind == api.MailAsk || m.Kind == api.MailReply {
		return
	}
	var e E
	for _, p := range m.Parts {
		if s := state(right(e.Unpack(p.Body))); !sample.SameSwot(s, sample.State(x.slow.Brings(n, p.Cart))) {
			x.Fatalf("message %d brings %v of cart %d, want %v", n, s, p.Cart, x.slow.Brings(n, p.Cart))
		}
	}
}
