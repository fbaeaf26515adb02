package wire_test

import (
	"bytes"
	"fmt"
	"math"
	"math/rand/v2"
	"strconv"

	"barrow/api"
	"barrow/wire"
)

const (
	leastInt = math.MinInt
	greatInt = math.MaxInt
)

// encoded is the chapter's definition of a number's bytes, word by word.
func encoded(n int) []byte {
	digits := strconv.FormatInt(int64(n), 2)
	for len(digits)%7 != 0 {
		digits = "0" + digits
	}
	var out []byte
	for digits != "" {
		lowest := len(digits) - 7
		group, _ := strconv.ParseUint(digits[lowest:], 2, 8)
		if digits = digits[:lowest]; digits != "" {
			group += 128
		}
		out = append(out, byte(group))
	}
	return out
}

// framed: the number of the bytes, then the bytes.
func framed(text string) []byte { return append(encoded(len(text)), text...) }

// decoded is the chapter's 'Reading a number', word by word: the number, and how many bytes were taken.
func decoded(b []byte) (n, taken int, err api.Errno) {
	for {
		if taken == 9 {
			return 0, 0, api.ErrWide
		}
		if taken == len(b) {
			return 0, 0, api.ErrShort
		}
		taken++
		if b[taken-1] < 128 {
			break
		}
	}
	if b[taken-1] == 0 && taken > 1 {
		return 0, 0, api.ErrWide
	}
	for i := taken - 1; i >= 0; i-- {
		n = n*128 + int(b[i]%128)
	}
	return n, taken, api.OK
}

// A step is a call of a reader.
type step struct {
	call string
	arg  int
}

// gaveUp stands for the answer of a call that gave up.
const gaveUp = "gave up"

// do makes the call, and catches a giving up.
func do(r *wire.Reader, s step) (answer string) {
	defer func() {
		if recover() != nil {
			answer = gaveUp
		}
	}()
	return call(r, s)
}

// call makes the call, and lets a giving up through.
func call(r *wire.Reader, s step) string {
	switch s.call {
	case "Num":
		return fmt.Sprint(r.Num(s.arg))
	case "Flag":
		return fmt.Sprint(r.Flag())
	case "Count":
		return fmt.Sprint(r.Count(s.arg))
	case "Text":
		return fmt.Sprintf("%q", r.Text(s.arg))
	case "Frame":
		return fmt.Sprintf("%q", r.Frame(s.arg))
	case "Left":
		return fmt.Sprint(r.Left())
	case "Fail":
		r.Fail(api.Errno(s.arg))
		return "went on"
	}
	panic("no call: " + s.call)
}

// overs: what each call answers of a reader that is over.
func overs() map[step]string {
	return map[step]string{{"Num", 9}: "0", {"Flag", 0}: "false", {"Count", 1}: "0", {"Text", 9}: `""`, {"Frame", 9}: `""`, {"Left", 0}: "0", {"Fail", 3}: "went on"}
}

// A model reads as the chapter says.
type model struct {
	left []byte
	gave api.Errno
}

func (m *model) giveUp(e api.Errno) string {
	m.left, m.gave = nil, e
	return gaveUp
}

func (m *model) do(s step) string {
	if s.call == "Left" {
		return fmt.Sprint(len(m.left))
	}
	if m.gave != api.OK {
		return gaveUp
	}
	switch s.call {
	case "Fail":
		if s.arg == 0 {
			return m.giveUp(api.ErrBad)
		}
		return m.giveUp(api.Errno(s.arg))
	case "Flag":
		return m.flag()
	}
	return m.number(s)
}

func (m *model) flag() string {
	if len(m.left) == 0 {
		return m.giveUp(api.ErrShort)
	}
	bit := m.left[0]
	if bit != 0 && bit != 1 {
		return m.giveUp(api.ErrWide)
	}
	m.left = m.left[1:]
	return fmt.Sprint(bit == 1)
}

// number: the calls that begin with a number.
func (m *model) number(s step) string {
	n, taken, err := decoded(m.left)
	if err != api.OK {
		return m.giveUp(err)
	}
	if s.call != "Count" && n > s.arg {
		return m.giveUp(api.ErrWide)
	}
	m.left = m.left[taken:]
	switch s.call {
	case "Num":
		return fmt.Sprint(n)
	case "Count":
		if n > len(m.left)/max(s.arg, 1) {
			return m.giveUp(api.ErrShort)
		}
		return fmt.Sprint(n)
	}
	if n > len(m.left) {
		return m.giveUp(api.ErrShort)
	}
	text := m.left[:n]
	m.left = m.left[n:]
	return fmt.Sprintf("%q", text)
}

// answer: what Read answers, where f went to its end or gave up.
func (m *model) answer() api.Errno {
	switch {
	case m.gave != api.OK:
		return m.gave
	case len(m.left) > 0:
		return api.ErrRest
	}
	return api.OK
}

// edgeNums: the numbers at which an encoding grows by a byte, and those about them.
func edgeNums() []int {
	nums := []int{0, 1, 2, 44, 300, 1000000000, greatInt, greatInt - 1, 1 << 62, 1<<62 - 1}
	for shift := 7; shift < 63; shift += 7 {
		nums = append(nums, 1<<shift-1, 1<<shift, 1<<shift+1)
	}
	return nums
}

func newDice() *rand.Rand { return rand.New(rand.NewPCG(7, 8)) }

func anyNum(dice *rand.Rand) int {
	if dice.IntN(3) == 0 {
		return edgeNums()[dice.IntN(len(edgeNums()))]
	}
	return int(dice.Uint64() >> (1 + dice.IntN(63)))
}

func anyText(dice *rand.Rand) string {
	text := make([]byte, []int{0, 1, 2, 5, 127, 128, 300}[dice.IntN(7)])
	for i := range text {
		text[i] = byte(dice.IntN(256))
	}
	return string(text)
}

// anyBytes: most of them are small, so that many a length fits and many a number is in form.
func anyBytes(dice *rand.Rand) []byte {
	var b []byte
	for range dice.IntN(14) {
		switch dice.IntN(5) {
		case 0:
			b = append(b, byte(dice.IntN(256)))
		case 1:
			b = append(b, 128+byte(dice.IntN(3)))
		default:
			b = append(b, byte(dice.IntN(4)))
		}
	}
	if dice.IntN(8) == 0 {
		b = append(b, bytes.Repeat([]byte{255}, 7+dice.IntN(3))...)
		b = append(b, []byte{0, 1, 127, 128}[dice.IntN(4)])
	}
	return b
}

func anySteps(dice *rand.Rand) []step {
	calls := []string{"Num", "Num", "Flag", "Count", "Text", "Frame", "Left", "Fail"}
	args := []int{leastInt, -1, 0, 1, 2, 3, 127, 128, 300, 1 << 40, greatInt, greatInt, greatInt}
	var steps []step
	for range dice.IntN(7) {
		s := step{calls[dice.IntN(len(calls))], args[dice.IntN(len(args))]}
		if s.call == "Fail" && dice.IntN(2) == 0 {
			s.call = "Left" // else many a list would end early
		}
		steps = append(steps, s)
	}
	return steps
}
