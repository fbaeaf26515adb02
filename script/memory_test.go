package script_test

import (
	"testing"

	"barrow/api"
	"barrow/memcheck"
	"barrow/sample"
	"barrow/script"
)

func TestNothingHandedInIsChanged(t *testing.T) { // P24.5, R7
	for _, s := range scripts(200) {
		mine := sample.RoomyScript(s)
		before := memcheck.Ops(mine.Ops)
		text := script.Print(mine)
		for _, o := range mine.Ops {
			script.Plain(o)
			script.PrintOp(o)
		}
		read, _, _ := script.Parse(text)
		if memcheck.Changed([]memcheck.Region{before}, []memcheck.Region{memcheck.Ops(read.Ops)}) {
			t.Errorf("Print(%v), or a write into what is read of it, changes it", s)
		}
		if script.Print(s) != text {
			t.Errorf("Print(%v) changes", s)
		}
	}
}

func TestNoTwoAnswersShareMemory(t *testing.T) { // P24.5, R7
	for _, s := range scripts(200) {
		text := script.Print(s)
		one, _, _ := script.Parse(text)
		two, _, _ := script.Parse(text)
		if memcheck.Shared([]memcheck.Region{memcheck.Ops(one.Ops), memcheck.Ops(two.Ops)}) {
			t.Errorf("two answers of Parse(%q) share memory", text)
		}
		// A longer list touches no later answer.
		one, _, _ = script.Parse(text)
		_ = append(one.Ops, api.Op{Kind: -77})
		parsesTo(t, text, allPlain(s))
	}
}
