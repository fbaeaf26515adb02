package lockstep

import (
	"sync"

	"barrow/api"
	"barrow/cart"
	"barrow/engine"
)

// Run: the script on both stacks, each in a goroutine of its own.
func Run(s api.Script) api.Report {
	tombs, swots := make(chan api.Answer), make(chan api.Answer)
	sends := 0
	var stacks sync.WaitGroup
	stacks.Add(2)
	go func() {
		defer stacks.Done()
		sends = play[api.Facts, engine.Tomb](s, tombs)
	}()
	go func() {
		defer stacks.Done()
		play[api.Swot, engine.Swot](s, swots)
	}()
	report := compared(tombs, swots)
	stacks.Wait()
	report.Sends = sends
	return report
}

// play: sends the answers of a new stack to all steps of the script; how many messages the stack has made then.
func play[S any, E engine.Engine[S]](s api.Script, answers chan<- api.Answer) int {
	defer close(answers)
	c := cart.New[S, E](s.Head)
	for _, o := range s.Ops {
		answers <- c.Step(o)
	}
	return c.Made()
}

// compared: the report of as many answers of each stack, but for its Sends.
func compared(tombs, swots <-chan api.Answer) api.Report {
	var report api.Report
	step := 0
	for a := range tombs {
		step++
		b := <-swots
		if report.At != 0 {
			// Each stack plays the script to its end, so that somebody must hear it out.
			continue
		}
		report.Answers = append(report.Answers, a)
		if !Equal(a, b) {
			report.At = step
		}
	}
	return report
}
