package wire_test

import (
	"errors"
	"sync"
	"testing"

	"barrow/api"
	"barrow/wire"
)

// held calls f and answers what it threw.
func held(f func()) (thrown any) {
	defer func() { thrown = recover() }()
	f()
	return nil
}

// givingUps: what a reader at the byte 2 gives up by, and the error.
func givingUps() map[step]api.Errno {
	return map[step]api.Errno{{"Num", 1}: api.ErrWide, {"Flag", 0}: api.ErrWide, {"Count", 1}: api.ErrShort, {"Text", 9}: api.ErrShort, {"Frame", 1}: api.ErrWide, {"Fail", 99}: 99, {"Fail", 0}: api.ErrBad}
}

func TestAReaderThatGaveUpDoesSoAgain(t *testing.T) { // P5.2
	for first, want := range givingUps() {
		got := wire.Read([]byte{2}, func(r *wire.Reader) {
			do(r, first)
			for further := range overs() {
				answer := do(r, further)
				if left := further.call == "Left"; left && answer != "0" || !left && answer != gaveUp {
					t.Errorf("behind %v: %v = %s", first, further, answer)
				}
			}
			do(r, step{"Fail", 77})
		})
		if got != want {
			t.Errorf("%v: Read = %d, want %d", first, got, want)
		}
	}
}

func checkOver(t *testing.T, r *wire.Reader, what string) {
	t.Helper()
	for s, want := range overs() {
		if got := do(r, s); got != want {
			t.Errorf("%s: %v = %s, want %s", what, s, got, want)
		}
	}
}

func TestAReaderThatIsOver(t *testing.T) { // P5.2
	var kept *wire.Reader
	for what, f := range map[string]func(r *wire.Reader){
		"nothing read":    func(r *wire.Reader) {},
		"a number read":   func(r *wire.Reader) { r.Num(9) },
		"all read":        func(r *wire.Reader) { r.Num(9); r.Num(9); r.Num(9); r.Num(9) },
		"gave up":         func(r *wire.Reader) { r.Fail(9) },
		"gave up, caught": func(r *wire.Reader) { do(r, step{"Fail", 9}) },
		"another panic":   func(r *wire.Reader) { panic("mine") },
	} {
		wire.Read([]byte{1, 1, 1, 1}, func(r *wire.Reader) { kept = r; f(r) })
		checkOver(t, kept, what)
	}
	err := wire.Read([]byte{1}, func(r *wire.Reader) {
		wire.Read([]byte{5, 6}, func(inner *wire.Reader) { kept = inner })
		checkOver(t, kept, "within another Read")
		r.Num(1)
	})
	if err != api.OK {
		t.Errorf("Read about it = %d", err)
	}
}

func TestOtherPanics(t *testing.T) { // P5.2
	var none map[string]int
	var nobody *api.Past
	list, place := []int{1}, 1
	for what, throw := range map[string]func(r *wire.Reader){
		"a text": func(r *wire.Reader) { panic("mine") }, "an error": func(r *wire.Reader) { panic(errors.New("mine")) }, "an error's number": func(r *wire.Reader) { panic(api.ErrShort) }, "nil": func(r *wire.Reader) { panic(nil) }, "the reader": func(r *wire.Reader) { panic(r) }, "a list": func(r *wire.Reader) { panic([]int{1}) },
		"a place beyond": func(r *wire.Reader) { list[place]++ }, "a nil map": func(r *wire.Reader) { none["x"] = 1 }, "a nil pointer": func(r *wire.Reader) { nobody.Vec = nil },
	} {
		if got := wire.Read([]byte{5}, throw); got != api.ErrBad {
			t.Errorf("%s, a byte left: Read = %d", what, got)
		}
		if got := wire.Read([]byte{5}, func(r *wire.Reader) { defer throw(r); r.Num(5) }); got != api.ErrBad {
			t.Errorf("%s, none left: Read = %d", what, got)
		}
		if got := wire.Read([]byte{5}, func(r *wire.Reader) { do(r, step{"Num", 4}); throw(r) }); got != api.ErrWide {
			t.Errorf("%s behind a giving up that was caught: Read = %d", what, got)
		}
		if got := wire.Read([]byte{5}, func(r *wire.Reader) { defer throw(r); r.Fail(9) }); got != 9 {
			t.Errorf("%s behind a giving up: Read = %d", what, got)
		}
	}
}

func TestAGivingUpThatIsThrownAgain(t *testing.T) { // P5.2
	got := wire.Read([]byte{5}, func(r *wire.Reader) { panic(held(func() { r.Num(4) })) })
	if got != api.ErrWide {
		t.Errorf("in its own Read: %d", got)
	}
	var thrown any
	wire.Read([]byte{5}, func(r *wire.Reader) {
		thrown = held(func() { r.Num(4) })
		panic(thrown)
	})
	// What a later Read answers is left open, but it is an answer.
	if again := held(func() { wire.Read(nil, func(r *wire.Reader) { panic(thrown) }) }); again != nil {
		t.Errorf("in a later Read: it throws %v", again)
	}
}

func TestAGivingUpBehindAPanic(t *testing.T) { // P5.2
	got := wire.Read([]byte{5}, func(r *wire.Reader) {
		defer r.Num(4)
		panic("mine")
	})
	if got != api.ErrWide {
		t.Errorf("Read = %d", got)
	}
}

func TestAnInnerReadersGivingUpEndsItsOwnReadAlone(t *testing.T) { // P5.2
	for s, want := range givingUps() {
		inner, behind := api.Errno(-1), false
		err := wire.Read([]byte{7}, func(r *wire.Reader) {
			inner = wire.Read([]byte{2}, func(q *wire.Reader) { call(q, s) })
			behind = r.Left() == 1 && r.Num(7) == 7
		})
		if err != api.OK || inner != want || !behind {
			t.Errorf("%v: the inner Read %d, the outer %d, went on: %v", s, inner, err, behind)
		}
	}
}

func TestAnOuterReadersGivingUpGoesThroughInnerReads(t *testing.T) { // P5.2
	for s, want := range givingUps() {
		var kept []*wire.Reader
		wentOn := false
		err := wire.Read([]byte{2}, func(r *wire.Reader) {
			wire.Read([]byte{7, 8}, func(q *wire.Reader) {
				wire.Read(nil, func(p *wire.Reader) {
					kept = append(kept, p, q)
					call(r, s)
					wentOn = true
				})
				wentOn = true
			})
			wentOn = true
		})
		if err != want || wentOn {
			t.Errorf("%v: Read = %d, went on: %v", s, err, wentOn)
		}
		for _, r := range kept {
			checkOver(t, r, "a reader between")
		}
	}
}

func TestAnOuterReadersGivingUpEndsAtItsOwnRead(t *testing.T) { // P5.2
	middle, wentOn := api.Errno(-1), false
	err := wire.Read([]byte{1}, func(r *wire.Reader) {
		middle = wire.Read([]byte{7}, func(q *wire.Reader) {
			wire.Read(nil, func(p *wire.Reader) { q.Num(6) })
		})
		wentOn = true
		r.Num(1)
	})
	if err != api.OK || middle != api.ErrWide || !wentOn {
		t.Errorf("the middle Read %d, the outer %d, went on: %v", middle, err, wentOn)
	}
}

func TestBothReadersGiveUp(t *testing.T) { // P5.2
	inner := api.Errno(-1)
	wide := func(r *wire.Reader) func() { return func() { r.Num(0) } }
	err := wire.Read([]byte{1}, func(r *wire.Reader) {
		inner = wire.Read(nil, func(q *wire.Reader) {
			defer r.Num(0)
			q.Fail(9)
		})
	})
	if err != api.ErrWide || inner != -1 {
		t.Errorf("the inner one, then the outer: the inner Read %d, the outer %d", inner, err)
	}
	err = wire.Read([]byte{1}, func(r *wire.Reader) {
		inner = wire.Read(nil, func(q *wire.Reader) {
			defer q.Fail(9)
			r.Num(0)
		})
	})
	if err != api.ErrWide || inner != 9 {
		t.Errorf("the outer one, then the inner: the inner Read %d, the outer %d", inner, err)
	}
	err = wire.Read([]byte{1}, func(r *wire.Reader) {
		inner = wire.Read(nil, func(q *wire.Reader) {
			held(wide(r))
			held(func() { q.Fail(9) })
		})
		if thrown := held(wide(r)); thrown == nil {
			t.Errorf("the outer one doesn't give up again")
		}
	})
	if err != api.ErrWide || inner != 9 {
		t.Errorf("both caught: the inner Read %d, the outer %d", inner, err)
	}
	err = wire.Read([]byte{1}, func(r *wire.Reader) {
		inner = wire.Read([]byte{1}, func(q *wire.Reader) { held(wide(r)) })
	})
	if err != api.ErrWide || inner != api.ErrRest {
		t.Errorf("the outer one, caught: the inner Read %d, the outer %d", inner, err)
	}
	err = wire.Read([]byte{1}, func(r *wire.Reader) {
		held(wide(r))
		inner = -1
		inner = wire.Read(nil, func(q *wire.Reader) { r.Left(); r.Flag() })
	})
	if err != api.ErrWide || inner != -1 {
		t.Errorf("the outer one again, inside: the inner Read %d, the outer %d", inner, err)
	}
}

// nest calls f within so many Reads.
func nest(depth int, f func()) {
	if depth == 0 {
		f()
		return
	}
	wire.Read(nil, func(*wire.Reader) { nest(depth-1, f) })
}

func TestAGivingUpThroughVeryManyReads(t *testing.T) { // P5.2
	wentOn := false
	err := wire.Read([]byte{1}, func(r *wire.Reader) {
		nest(1<<16, func() { r.Num(0) })
		wentOn = true
	})
	if err != api.ErrWide || wentOn {
		t.Errorf("Read = %d, went on: %v", err, wentOn)
	}
}

func TestReadsInManyGoroutines(t *testing.T) { // P5.2
	var wait sync.WaitGroup
	errs := make([]api.Errno, 200)
	for i := range errs {
		wait.Go(func() {
			errs[i] = wire.Read([]byte{1}, func(r *wire.Reader) {
				nest(3, func() { r.Fail(api.Errno(i + 1)) })
			})
		})
	}
	wait.Wait()
	for i, err := range errs {
		if err != api.Errno(i+1) {
			t.Errorf("the Read of goroutine %d = %d", i, err)
		}
	}
}
