package save_test

import (
	"bytes"
	"fmt"
	"math"
	"math/rand/v2"
	"slices"
	"strings"

	"barrow/api"
	"barrow/engine"
	"barrow/node"
	"barrow/sample"
	"barrow/save"
	"barrow/wire"
)

// A kind is an engine, and its states as the tests see them.
type kind[S any, E engine.Engine[S]] struct {
	name   string
	same   func(a, b S) bool
	states []S // in form
	wrong  []S // not in form
	roomy  func(s S) S
	of     func(f api.Facts) S
}

func tombs() kind[api.Facts, engine.Tomb] {
	itself := func(f api.Facts) api.Facts { return f }
	return kind[api.Facts, engine.Tomb]{"Tomb", sample.SameFacts, append(sample.Facts(newDice().IntN, 60), wideFacts()...), sample.WrongFacts(), sample.RoomyFacts, itself}
}

func swots() kind[api.Swot, engine.Swot] {
	states := sample.Swots(newDice().IntN, 60)
	for _, f := range wideFacts() {
		states = append(states, sample.State(f))
	}
	return kind[api.Swot, engine.Swot]{"Swot", sample.SameSwot, states, sample.WrongSwots(), sample.RoomySwot, sample.State}
}

// wideFacts: facts whose bytes are so many that the number ahead of them has two bytes, and three; of the last ones the second sum wraps round.
func wideFacts() []api.Facts {
	var all []api.Facts
	for _, count := range []int{4, 5, 20, 700, 3000} {
		var f api.Facts
		for i := range count {
			f.Adds = append(f.Adds, sample.Entry(5, 2*i+1, strings.Repeat("Z", 1+i%24), 1+i))
		}
		all = append(all, f)
	}
	return all
}

func (k kind[S, E]) put(d node.Durable[S]) ([]byte, api.Errno) { return save.Put[S, E](d) }

func (k kind[S, E]) get(b []byte) (node.Durable[S], api.Errno) { return save.Get[S, E](b) }

func (k kind[S, E]) sameDurable(a, b node.Durable[S]) bool {
	same := func(x, y node.Held[S]) bool { return x.Cart == y.Cart && k.same(x.State, y.State) }
	return a.Self == b.Self && a.Next == b.Next && slices.EqualFunc(a.Carts, b.Carts, same)
}

// right: the answer of a call that must not fail.
func right[T any](answer T, err api.Errno) T {
	if err != api.OK {
		panic(fmt.Sprint("error ", err))
	}
	return answer
}

// inForm is the chapter's 'A Durable is in form', word by word.
func (k kind[S, E]) inForm(d node.Durable[S]) bool {
	var e E
	if d.Self < 0 || d.Self > 15 || d.Next < 0 || d.Next > 1<<62 {
		return false
	}
	for i, c := range d.Carts {
		if c.Cart < 0 || c.Cart > 63 || i > 0 && c.Cart <= d.Carts[i-1].Cart || e.Check(c.State) != api.OK {
			return false
		}
	}
	return true
}

func num(n int) []byte {
	w := wire.NewWriter()
	w.Num(n)
	return right(w.Done())
}

// pieces is the chapter's 'The body', word by word: each number and each state's bytes by themselves.
func (k kind[S, E]) pieces(d node.Durable[S]) [][]byte {
	var e E
	all := [][]byte{num(3), num(d.Self), num(d.Next), num(len(d.Carts))}
	for _, c := range d.Carts {
		state := right(e.Pack(c.State))
		all = append(all, num(c.Cart), num(len(state)), state)
	}
	return all
}

// sums is the chapter's 'The sums', word by word.
func sums(b []byte) (first, second int) {
	const most = 4294967296
	for _, c := range b {
		first = (first + int(c)) % most
		second = (second + first) % most
	}
	return first, second
}

// four: the number's four bytes, the highest first.
func four(n int) []byte {
	return []byte{byte(n / 16777216), byte(n / 65536 % 256), byte(n / 256 % 256), byte(n % 256)}
}

// sealed: the body, and its sums behind it.
func sealed(body []byte) []byte {
	first, second := sums(body)
	return slices.Concat(body, four(first), four(second))
}

// image is the chapter's 'The bytes of an image'.
func (k kind[S, E]) image(d node.Durable[S]) []byte { return sealed(bytes.Join(k.pieces(d), nil)) }

// A scan goes through bytes by the chapter's words alone: it bounds no number, and leaves that to the form of what came out.
type scan struct {
	rest []byte
	bad  bool
}

func (s *scan) num() int {
	n, behind, err := wire.Num(s.rest, 0)
	if s.bad || err != api.OK {
		s.bad = true
		return 0
	}
	s.rest = s.rest[behind:]
	return n
}

func (s *scan) frame() []byte {
	n := s.num()
	if s.bad || n > len(s.rest) {
		s.bad = true
		return nil
	}
	frame := s.rest[:n]
	s.rest = s.rest[n:]
	return frame
}

// scanned: what the body says, if it says anything.
func (k kind[S, E]) scanned(body []byte) (node.Durable[S], bool) {
	var e E
	s := &scan{rest: body}
	if s.num() != 3 {
		return node.Durable[S]{}, false
	}
	d := node.Durable[S]{Self: s.num(), Next: s.num()}
	for i := s.num(); i > 0 && !s.bad; i-- {
		cart := s.num()
		state, err := e.Unpack(s.frame())
		s.bad = s.bad || err != api.OK
		d.Carts = append(d.Carts, node.Held[S]{Cart: cart, State: state})
	}
	return d, !s.bad && len(s.rest) == 0
}

// wanted: what Get answers of b, by the chapter.
func (k kind[S, E]) wanted(b []byte) (node.Durable[S], api.Errno) {
	if len(b) < 8 || !bytes.Equal(sealed(b[:len(b)-8]), b) {
		return node.Durable[S]{}, api.ErrBad
	}
	d, ok := k.scanned(b[:len(b)-8])
	if !ok || !k.inForm(d) {
		return node.Durable[S]{}, api.ErrBad
	}
	return d, api.OK
}

// held: these carts, with states of the list.
func held[S any](carts []int, states []S) []node.Held[S] {
	var list []node.Held[S]
	for i, cart := range carts {
		list = append(list, node.Held[S]{Cart: cart, State: states[i%len(states)]})
	}
	return list
}

func upTo(n int) []int {
	var list []int
	for i := range n {
		list = append(list, i)
	}
	return list
}

// durables: what is in form, at its bounds, with every state of the kind.
func (k kind[S, E]) durables() []node.Durable[S] {
	selves, nexts := []int{0, 1, 7, 14, 15}, []int{0, 1, 2, 3, 127, 128, 300, 1 << 40, api.MaxSeq - 1, api.MaxSeq}
	lists := [][]int{{0}, {63}, {5}, {0, 1}, {0, 63}, {62, 63}, {3, 17, 40}, upTo(5)}
	var all []node.Durable[S]
	for i, self := range selves {
		for j, next := range nexts {
			all = append(all, node.Durable[S]{Self: self, Next: next}, node.Durable[S]{Self: self, Next: next, Carts: []node.Held[S]{}}, node.Durable[S]{Self: self, Next: next, Carts: held(lists[(i+j)%len(lists)], k.states[:3])})
		}
	}
	for i := range k.states {
		states := slices.Concat(k.states[i:], k.states[:i])
		all = append(all, node.Durable[S]{Self: i % 16, Next: i, Carts: held(lists[i%len(lists)], states)})
	}
	return append(all, node.Durable[S]{Self: 15, Next: api.MaxSeq, Carts: held(upTo(64), k.states)}, node.Durable[S]{Carts: held(upTo(64), k.states[:1])})
}

// short: those whose image has few bytes.
func (k kind[S, E]) short() []node.Durable[S] {
	return sample.Those(k.durables(), func(d node.Durable[S]) bool { return len(k.image(d)) < 200 })
}

// wrongDurables: what isn't in form, by one thing or by several.
func (k kind[S, E]) wrongDurables() []node.Durable[S] {
	some := held([]int{0, 9, 63}, k.states)
	var all []node.Durable[S]
	for _, self := range []int{math.MinInt, -1, 16, 17, 255, 256, math.MaxInt} {
		all = append(all, node.Durable[S]{Self: self}, node.Durable[S]{Self: self, Next: 3, Carts: some})
	}
	for _, next := range []int{math.MinInt, -1, api.MaxSeq + 1, math.MaxInt} {
		all = append(all, node.Durable[S]{Next: next}, node.Durable[S]{Self: 15, Next: next, Carts: some})
	}
	for _, carts := range [][]int{{-1}, {64}, {5, 5}, {5, 4}, {0, 64}, {-1, 0}, {0, 2, 1}, {0, 2, 2, 3}, {62, 63, 64}, {63, 63}, {63, 0}, {0, -1, 1}, {math.MinInt}, {math.MaxInt}, {0, math.MaxInt}, {math.MinInt, 0}, upTo(65), append(upTo(64), 63)} {
		all = append(all, node.Durable[S]{Carts: held(carts, k.states[:1])}, node.Durable[S]{Self: 3, Next: 8, Carts: held(carts, k.states)})
	}
	for i, s := range k.wrong {
		carts := slices.Clone(some)
		carts[i%3].State = s
		all = append(all, node.Durable[S]{Carts: []node.Held[S]{{Cart: 5, State: s}}}, node.Durable[S]{Self: 1, Next: 2, Carts: carts})
	}
	return append(all, node.Durable[S]{Self: 16, Next: -1, Carts: held([]int{64, 5}, k.wrong)})
}

func newDice() *rand.Rand { return rand.New(rand.NewPCG(37, 38)) }
