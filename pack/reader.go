package pack

import (
	"barrow/api"
	"barrow/wire"
)

// The least bytes that a span, an entry and a record take: so many may follow a count at most as there is room for.
const (
	spanBytes   = 3
	entryBytes  = 5
	recordBytes = 4
)

// A reader reads what the wire's reads, and pasts, entries and records too. Every number is bounded as it is read, so that no sum of them wraps round.
type reader struct{ *wire.Reader }

func (r reader) past() api.Past {
	var p api.Past
	for range r.Num(api.MaxReps) {
		p.Vec = append(p.Vec, r.Num(api.MaxNum))
	}
	t := newTrail(spanGap, p.Vec)
	for range r.Count(spanBytes) {
		rep, lo := r.place(t)
		hi := lo + r.Num(api.MaxNum-lo)
		p.Cloud = append(p.Cloud, api.Span{Rep: rep, Lo: lo, Hi: hi})
		t.pass(rep, hi)
	}
	return p
}

func (r reader) entries() []api.Entry {
	var es []api.Entry
	t := newTrail(entryGap, nil)
	for range r.Count(entryBytes) {
		rep, num := r.place(t)
		sku := r.Text(api.MaxSku)
		qty := 1 + r.Num(api.MaxQty-1)
		es = append(es, api.Entry{Dot: api.Dot{Rep: rep, Num: num}, Sku: sku, Qty: qty})
		t.pass(rep, num)
	}
	return es
}

func (r reader) records() []api.Record {
	var rs []api.Record
	for range r.Count(recordBytes) {
		sku := r.Text(api.MaxSku)
		rs = append(rs, api.Record{Sku: sku, Past: r.past()})
	}
	return rs
}

// place: a replica and its number, from steps along the trail. Where the trail is at the replica's last number, the bound is below 0 and nothing is taken.
func (r reader) place(t *trail) (rep, num int) {
	rep = t.rep + r.Num(api.MaxReps-1-t.rep)
	num = t.least(rep) + r.Num(api.MaxNum-t.least(rep))
	return rep, num
}
