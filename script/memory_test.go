package script_test

import (
	"slices"
	"testing"

	"barrow/api"
	"barrow/memcheck"
	"barrow/script"
)

func memory(list []api.Op) memcheck.Region {
	return memcheck.Of(list, api.Op{Kind: -77, Rep: -77, Sku: "junk"}, func(x, y api.Op) bool { return x == y })
}

// roomy: the script with its ops in new memory, with spare room behind them in which there is something to lose.
func roomy(s api.Script) api.Script {
	s.Ops = slices.Concat(s.Ops, []api.Op{{Kind: 1, Sku: "Z"}, {Kind: 2}})[:len(s.Ops)]
	return s
}

func TestNothingHandedInIsChanged(t *testing.T) { // P24.5, R7
	for _, s := range scripts(200) {
		mine := roomy(s)
		before := memory(mine.Ops)
		text := script.Print(mine)
		for _, o := range mine.Ops {
			script.Plain(o)
			script.PrintOp(o)
		}
		read, _, _ := script.Parse(text)
		if memcheck.Changed([]memcheck.Region{before}, []memcheck.Region{memory(read.Ops)}) {
			t.Errorf("Print(%v), or a write into what is read of it, changes it", s)
		}
		if script.Print(s) != text {
			t.Errorf("Print(%v) changes", s)
		}
	}
}

func TestNoTwoAnswersShareMemory(t *testing.T) { // P24.5, R7
	for _, s := range scripts(200) {
		text := script.Print(s)
		one, _, _ := script.Parse(text)
		two, _, _ := script.Parse(text)
		if memcheck.Shared([]memcheck.Region{memory(one.Ops), memory(two.Ops)}) {
			t.Errorf("two answers of Parse(%q) share memory", text)
		}
		// A longer list touches no later answer.
		one, _, _ = script.Parse(text)
		_ = append(one.Ops, api.Op{Kind: -77})
		parsesTo(t, text, allPlain(s))
	}
}
