package known

import (
	"barrow/api"
	"barrow/sample"
)

// Thrown: a script of so many steps, most of which name messages and tokens that there are by then.
func Thrown(roll sample.Roll, h api.Header, count int) api.Script {
	s := New(h)
	script := api.Script{Head: h}
	for range count {
		o := sample.ThrownOp(roll, s.Head(), s.Made(), s.Given())
		s.Step(o)
		script.Ops = append(script.Ops, o)
	}
	return script
}

// Played: the slow stack behind the script.
func Played(s api.Script) *Stack {
	c := New(s.Head)
	for _, o := range s.Ops {
		c.Step(o)
	}
	return c
}
