package act

import (
	"barrow/api"
	"barrow/lines"
	"barrow/past"
)

// A scene is what a replica has of the cart when an act is decided; it is in form.
type scene struct {
	live []api.Entry
	seen api.Past
	rep  int
	lim  api.Limits
}

// A rule decides the acts of one kind. What hangs on the act alone has been asked already.
type rule func(s scene, a api.Act) (api.Facts, api.Errno)

// rules: each kind's own.
func rules() map[int]rule {
	return map[int]rule{
		api.ActSet:      set,
		api.ActAdd:      add,
		api.ActRemove:   remove,
		api.ActRemoveTo: removeTo,
		api.ActClear:    clearAll,
		api.ActClearTo:  clearTo,
	}
}

func set(s scene, a api.Act) (api.Facts, api.Errno) {
	old, _ := lines.Of(s.live, a.Sku)
	if s.isFullFor(old) {
		return api.Facts{}, api.ErrFull
	}
	return s.replace(old, a.Sku, a.Qty)
}

func add(s scene, a api.Act) (api.Facts, api.Errno) {
	all, _ := lines.Of(s.live, a.Sku)
	if s.isFullFor(all) {
		return api.Facts{}, api.ErrFull
	}
	if sum, _ := lines.Total(all); sum+a.Qty > api.MaxQty {
		return api.Facts{}, api.ErrOver
	}
	own, _ := lines.Own(s.live, s.rep, a.Sku)
	sum, _ := lines.Total(own)
	return s.replace(own, a.Sku, a.Qty+sum)
}

// isFullFor: is there no room for a line of the SKU whose live entries these are?
func (s scene) isFullFor(of []api.Entry) bool {
	if len(of) > 0 {
		return false
	}
	told, _ := lines.Lines(s.live)
	return len(told) >= s.lim.Lines
}

// replace: the old entries go, and a new one comes.
func (s scene) replace(old []api.Entry, sku string, qty int) (api.Facts, api.Errno) {
	dot, err := Next(s.seen, s.rep, s.lim.Count)
	if err != api.OK {
		return api.Facts{}, err
	}
	gone, err := lines.Dots(old)
	return api.Facts{Adds: []api.Entry{{Dot: dot, Sku: sku, Qty: qty}}, Gone: gone}, err
}

func remove(s scene, a api.Act) (api.Facts, api.Errno) {
	old, _ := lines.Of(s.live, a.Sku)
	if len(old) == 0 {
		return api.Facts{}, api.ErrAbsent
	}
	gone, err := lines.Dots(old)
	return api.Facts{Gone: gone}, err
}

func clearAll(s scene, a api.Act) (api.Facts, api.Errno) {
	gone, err := lines.Dots(s.live)
	return api.Facts{Gone: gone}, err
}

func removeTo(s scene, a api.Act) (api.Facts, api.Errno) { return record(a.Sku, a.Past), api.OK }

func clearTo(s scene, a api.Act) (api.Facts, api.Errno) { return record("", a.Past), api.OK }

// record: a remove by context, whatever it hits here.
func record(sku string, p api.Past) api.Facts {
	if past.Empty(p) {
		return api.Facts{}
	}
	return api.Facts{Recs: []api.Record{{Sku: sku, Past: past.Norm(p)}}}
}
