package sample

import (
	"slices"

	"barrow/api"
)

// RoomyBytes: the bytes in new memory, with spare room behind them in which there is something to lose.
func RoomyBytes(b []byte) []byte { return slices.Concat(b, []byte{70, 71, 72})[:len(b)] }

// RoomyEntries: the entries in new memory, with such room behind them.
func RoomyEntries(list []api.Entry) []api.Entry {
	return slices.Concat(list, []api.Entry{Entry(0, 70, "Z", 7), Entry(0, 71, "Z", 7)})[:len(list)]
}

// RoomyPast: the past in new memory, with such room behind its lists.
func RoomyPast(p api.Past) api.Past {
	return api.Past{
		Vec:   slices.Concat(p.Vec, []int{70, 71})[:len(p.Vec)],
		Cloud: slices.Concat(p.Cloud, []api.Span{Span(1, 70, 71), Span(2, 72, 73)})[:len(p.Cloud)],
	}
}

// RoomyRecords: the records and their pasts in new memory, with such room behind each list.
func RoomyRecords(list []api.Record) []api.Record {
	room := slices.Concat(list, []api.Record{Record("Y", []int{70}), Record("Z", nil, Span(1, 70, 71))})
	for i, r := range room {
		room[i].Past = RoomyPast(r.Past)
	}
	return room[:len(list)]
}

// RoomyFacts: the facts in new memory, with such room behind each list.
func RoomyFacts(f api.Facts) api.Facts {
	return api.Facts{Adds: RoomyEntries(f.Adds), Gone: RoomyPast(f.Gone), Recs: RoomyRecords(f.Recs)}
}

// RoomySwot: the state in new memory, with such room behind each list.
func RoomySwot(s api.Swot) api.Swot {
	return api.Swot{Live: RoomyEntries(s.Live), Past: RoomyPast(s.Past), Defer: RoomyRecords(s.Defer)}
}

// RoomyDigest: the digest in new memory, with such room behind each list.
func RoomyDigest(d api.Digest) api.Digest {
	return api.Digest{Heard: RoomyPast(d.Heard), Live: RoomyPast(d.Live)}
}

// RoomyFactsList: the list and its facts in new memory, with such room behind each list.
func RoomyFactsList(list []api.Facts) []api.Facts {
	return roomyList(list, api.Facts{Adds: []api.Entry{Entry(0, 70, "Z", 7)}}, RoomyFacts)
}

// RoomySwotList: the list and its states in new memory, with such room behind each list.
func RoomySwotList(list []api.Swot) []api.Swot {
	return roomyList(list, api.Swot{Past: Past([]int{70})}, RoomySwot)
}

// RoomyScript: the script with its ops in new memory, with such room behind them.
func RoomyScript(s api.Script) api.Script {
	s.Ops = slices.Concat(s.Ops, []api.Op{{Kind: 1, Sku: "Z"}, {Kind: 2}})[:len(s.Ops)]
	return s
}

// RoomyPairs: the pairs in new memory, with such room behind them.
func RoomyPairs(list []api.Pair) []api.Pair {
	return slices.Concat(list, []api.Pair{{From: 70, To: 71}, {From: 1, To: 2}})[:len(list)]
}

func roomyList[S any](list []S, spare S, roomy func(s S) S) []S {
	room := slices.Concat(list, []S{spare, spare})
	for i, s := range room {
		room[i] = roomy(s)
	}
	return room[:len(list)]
}
