package lines_test

import (
	"slices"
	"testing"

	"barrow/api"
	"barrow/lines"
	"barrow/sample"
)

// linesOf is the chapter's definition of the lines, word by word.
func linesOf(list []api.Entry) []api.Line {
	var skus []string
	for _, e := range list {
		if !slices.Contains(skus, e.Sku) {
			skus = append(skus, e.Sku)
		}
	}
	slices.Sort(skus)
	var out []api.Line
	for _, sku := range skus {
		out = append(out, lineOf(list, sku))
	}
	return out
}

func lineOf(list []api.Entry, sku string) api.Line {
	of := sample.Those(list, func(e api.Entry) bool { return e.Sku == sku })
	if len(of) == 0 {
		return api.Line{}
	}
	return api.Line{Sku: sku, Qty: total(of), Parts: len(of)}
}

func total(list []api.Entry) int {
	sum := 0
	for _, e := range list {
		sum += e.Qty
	}
	return sum
}

func checkLines(t *testing.T, list []api.Entry) {
	t.Helper()
	got, err := lines.Lines(list)
	if want := linesOf(list); !slices.Equal(got, want) || err != api.OK {
		t.Errorf("Lines(%v) = %v, %d, want %v", list, got, err, want)
	}
	qty, parts := 0, 0
	for _, line := range got {
		qty, parts = qty+line.Qty, parts+line.Parts
	}
	sum, err := lines.Total(list)
	if sum != total(list) || err != api.OK || qty != sum || parts != len(list) {
		t.Errorf("%v: Total %d, %d, the lines have %d in %d parts", list, sum, err, qty, parts)
	}
	for _, sku := range someSkus() {
		if line, err := lines.Line(list, sku); line != lineOf(list, sku) || err != api.OK {
			t.Errorf("Line(%v, %q) = %v, %d", list, sku, line, err)
		}
	}
	for _, sku := range noSkus() {
		if line, err := lines.Line(list, sku); line != (api.Line{}) || err != api.ErrSku {
			t.Errorf("Line(%v, %q) = %v, %d", list, sku, line, err)
		}
	}
}

func TestLines(t *testing.T) { // P6.4
	for _, list := range samples(1000) {
		checkLines(t, list)
	}
}

func TestLinesOfVeryMany(t *testing.T) { // P6.4
	var list []api.Entry
	for rep := range api.MaxReps {
		for num := 1; num <= 300; num++ {
			list = append(list, en(rep, num*7, someSkus()[num%5], api.MaxQty))
		}
	}
	checkLines(t, list)
}

func TestLinesExamples(t *testing.T) { // P6.4
	for _, c := range []struct {
		list  []api.Entry
		want  []api.Line
		total int
	}{
		{example(), []api.Line{{Sku: "A", Qty: 6, Parts: 2}, {Sku: "B", Qty: 2, Parts: 1}}, 8},
		{es(en(0, 1, "A", 1000000), en(1, 1, "A", 1000000)), []api.Line{{Sku: "A", Qty: 2000000, Parts: 2}}, 2000000},
		{es(en(0, 1, "B", 1), en(0, 2, "A-1", 1), en(0, 3, "A", 1)), []api.Line{{Sku: "A", Qty: 1, Parts: 1}, {Sku: "A-1", Qty: 1, Parts: 1}, {Sku: "B", Qty: 1, Parts: 1}}, 3},
		{es(en(0, 1, "A2", 1), en(0, 2, "A10", 1)), []api.Line{{Sku: "A10", Qty: 1, Parts: 1}, {Sku: "A2", Qty: 1, Parts: 1}}, 2},
		{nil, nil, 0},
	} {
		if got, err := lines.Lines(c.list); !slices.Equal(got, c.want) || err != api.OK {
			t.Errorf("Lines(%v) = %v, %d, want %v", c.list, got, err, c.want)
		}
		if got, err := lines.Total(c.list); got != c.total || err != api.OK {
			t.Errorf("Total(%v) = %d, %d, want %d", c.list, got, err, c.total)
		}
	}
	if got, err := lines.Line(example(), "A"); got != (api.Line{Sku: "A", Qty: 6, Parts: 2}) || err != api.OK {
		t.Errorf("Line A = %v, %d", got, err)
	}
	if got, err := lines.Line(example(), "C"); got != (api.Line{}) || err != api.OK {
		t.Errorf("Line C = %v, %d", got, err)
	}
}

func TestLinesOutOfForm(t *testing.T) { // P6.4
	for _, list := range sample.WrongEntryLists() {
		if got, err := lines.Lines(list); len(got) != 0 || err != api.ErrForm {
			t.Errorf("Lines(%v) = %v, %d", list, got, err)
		}
		if got, err := lines.Total(list); got != 0 || err != api.ErrForm {
			t.Errorf("Total(%v) = %d, %d", list, got, err)
		}
		for _, sku := range []string{"A", "B", "a"} {
			if got, err := lines.Line(list, sku); got != (api.Line{}) || err != api.ErrForm {
				t.Errorf("Line(%v, %q) = %v, %d", list, sku, got, err)
			}
		}
	}
}
