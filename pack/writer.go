package pack

import (
	"barrow/api"
	"barrow/wire"
)

// A writer puts what the wire's puts, and pasts, entries and records too. What it is handed is in form.
type writer struct{ *wire.Writer }

func (w writer) past(p api.Past) {
	w.Num(len(p.Vec))
	for _, n := range p.Vec {
		w.Num(n)
	}
	w.Num(len(p.Cloud))
	t := newTrail(spanGap, p.Vec)
	for _, s := range p.Cloud {
		w.place(t, s.Rep, s.Lo)
		w.Num(s.Hi - s.Lo)
		t.pass(s.Rep, s.Hi)
	}
}

func (w writer) entries(es []api.Entry) {
	w.Num(len(es))
	t := newTrail(entryGap, nil)
	for _, e := range es {
		w.place(t, e.Dot.Rep, e.Dot.Num)
		w.Text(e.Sku)
		w.Num(e.Qty - 1)
		t.pass(e.Dot.Rep, e.Dot.Num)
	}
}

func (w writer) records(rs []api.Record) {
	w.Num(len(rs))
	for _, r := range rs {
		w.Text(r.Sku)
		w.past(r.Past)
	}
}

// place: a replica and its number, as steps along the trail.
func (w writer) place(t *trail, rep, num int) {
	w.Num(rep - t.rep)
	w.Num(num - t.least(rep))
}
