package sample

import (
	"bytes"
	"slices"

	"barrow/api"
)

// Part: a cart's piece of a mail.
func Part(cart int, body ...byte) api.Part { return api.Part{Cart: cart, Body: body} }

// SameMail: one mail as it stands, where nil and empty are one.
func SameMail(a, b api.Mail) bool {
	return a.Kind == b.Kind && a.From == b.From && a.To == b.To && a.Lo == b.Lo && a.Hi == b.Hi && slices.EqualFunc(a.Parts, b.Parts, samePart)
}

func samePart(x, y api.Part) bool { return x.Cart == y.Cart && bytes.Equal(x.Body, y.Body) }

// edgeParts: lists of parts in form, at their bounds.
func edgeParts() [][]api.Part {
	var every []api.Part
	for cart := range api.MaxCarts {
		every = append(every, Part(cart, bytes.Repeat([]byte{byte(cart)}, cart%5)...))
	}
	return [][]api.Part{
		nil, {}, {Part(0)}, {Part(63)}, {{Cart: 5, Body: []byte{}}}, {Part(4, 0xff, 0)}, {Part(0, 0), Part(1), Part(2, 0, 0)}, {Part(0), Part(63, 7)}, every,
		// Bodies at whose length the number ahead of them grows by a byte, and one that is itself a mail's bytes.
		{Part(1, bytes.Repeat([]byte{1}, 127)...), Part(2, bytes.Repeat([]byte{0}, 128)...)}, {Part(9, bytes.Repeat([]byte{0xff}, 1<<14)...)}, {Part(3, 3, 2, 0, 0, 5, 0), Part(8, 3, 2, 0, 0, 5, 0)},
	}
}

// edgeRanges: of each kind Lo and Hi, at their bounds.
func edgeRanges() map[int][][2]int {
	none, upTo := [][2]int{{0, 0}}, [][2]int{{0, 0}, {0, 1}, {0, 127}, {0, 128}, {0, 300}, {0, api.MaxSeq - 1}, {0, api.MaxSeq}}
	return map[int][][2]int{
		api.MailDelta: append([][2]int{{1, 1}, {2, 3}, {127, 128}, {1 << 40, 1<<40 + 64}, {api.MaxSeq - 1, api.MaxSeq}, {api.MaxSeq, api.MaxSeq}}, upTo...),
		api.MailFull:  upTo, api.MailAck: upTo, api.MailAsk: none, api.MailReply: none,
		api.MailPush: {{0, 1}, {1, 2}, {126, 127}, {127, 128}, {1 << 40, 1<<40 + 1}, {api.MaxSeq - 1, api.MaxSeq}},
	}
}

// EdgeMails: mails in form of every kind, at their bounds.
func EdgeMails() []api.Mail {
	var all []api.Mail
	for kind := api.MailDelta; kind <= api.MailPush; kind++ {
		for i, r := range edgeRanges()[kind] {
			for k, parts := range edgeParts() {
				ends := [][2]int{{0, 1}, {1, 0}, {15, 0}, {0, 15}, {14, 15}, {7, 3}}[(i+k)%6]
				if kind == api.MailAck {
					parts = parts[:0]
				}
				all = append(all, api.Mail{Kind: kind, From: ends[0], To: ends[1], Lo: r[0], Hi: r[1], Parts: parts})
			}
		}
	}
	return all
}

// Mails: mails in form, edges and thrown ones.
func Mails(roll Roll, count int) []api.Mail {
	all := EdgeMails()
	for range count {
		all = append(all, thrownMail(roll))
	}
	return all
}

func thrownMail(roll Roll) api.Mail {
	from, kind := roll(api.MaxReps), 1+roll(api.MailPush)
	m := api.Mail{Kind: kind, From: from, To: (from + 1 + roll(api.MaxReps-1)) % api.MaxReps}
	switch lo, more := roll(1<<(1+roll(40))), roll(70); kind {
	case api.MailDelta:
		m.Lo, m.Hi = lo, lo+more
	case api.MailFull, api.MailAck:
		m.Hi = lo
	case api.MailPush:
		m.Lo, m.Hi = lo, lo+1
	}
	if kind != api.MailAck {
		m.Parts = thrownParts(roll)
	}
	return m
}

func thrownParts(roll Roll) []api.Part {
	var parts []api.Part
	for cart := roll(20); cart < api.MaxCarts; cart += 1 + roll(40) {
		body := make([]byte, roll(6))
		for i := range body {
			body[i] = byte(roll(200))
		}
		parts = append(parts, Part(cart, body...))
	}
	return parts
}

// WrongMails: mails that aren't in form, by one thing or by several.
func WrongMails() []api.Mail {
	part := []api.Part{Part(1)}
	all := []api.Mail{
		{}, {From: 1}, {To: 1}, {Kind: api.MailAck, To: 1, Parts: part}, {Kind: api.MailAck, To: 1, Hi: 5, Parts: []api.Part{Part(0, 1, 2)}}, {Kind: 7, From: 16, To: 16, Lo: 3, Hi: 2, Parts: []api.Part{Part(64)}},
	}
	for _, kind := range []int{leastInt, -1, 0, 7, 8, 99, 257, greatInt} {
		all = append(all, api.Mail{Kind: kind, To: 1}, api.Mail{Kind: kind, To: 1, Hi: 1, Parts: part})
	}
	for kind := api.MailDelta; kind <= api.MailPush; kind++ {
		for _, r := range wrongRanges()[kind] {
			all = append(all, api.Mail{Kind: kind, To: 1, Lo: r[0], Hi: r[1]}, api.Mail{Kind: kind, From: 15, Lo: r[0], Hi: r[1], Parts: part})
		}
		r := edgeRanges()[kind][0]
		for _, ends := range [][2]int{{0, 0}, {15, 15}, {7, 7}, {-1, 0}, {0, -1}, {16, 0}, {0, 16}, {16, 17}, {leastInt, 0}, {0, leastInt}, {greatInt, 0}, {0, greatInt}} {
			all = append(all, api.Mail{Kind: kind, From: ends[0], To: ends[1], Lo: r[0], Hi: r[1]})
		}
		for _, parts := range wrongParts() {
			all = append(all, api.Mail{Kind: kind, To: 1, Lo: r[0], Hi: r[1], Parts: parts})
		}
	}
	return all
}

// wrongRanges: of each kind, what Lo and Hi together may not be.
func wrongRanges() map[int][][2]int {
	const most = api.MaxSeq
	never := [][2]int{{-1, 0}, {-1, -1}, {0, -1}, {1, 0}, {3, 2}, {0, most + 1}, {most + 1, most + 1}, {most, most + 1}, {most, most - 1}, {leastInt, 0}, {leastInt, greatInt}, {0, greatInt}, {greatInt, greatInt}, {greatInt, leastInt}}
	started := append([][2]int{{1, 1}, {1, 3}, {most, most}}, never...)
	named := append([][2]int{{0, 1}, {0, most}}, started...)
	return map[int][][2]int{
		api.MailDelta: never, api.MailFull: started, api.MailAck: started, api.MailAsk: named, api.MailReply: named,
		api.MailPush: append([][2]int{{0, 0}, {3, 3}, {0, 2}, {3, 5}, {0, most}, {most, most}, {most - 2, most}}, never...),
	}
}

// wrongParts: lists of parts that aren't in form.
func wrongParts() [][]api.Part {
	return [][]api.Part{
		{Part(-1)}, {Part(64)}, {Part(leastInt, 1)}, {Part(greatInt, 1)}, {Part(1), Part(1)}, {Part(1, 1), Part(1, 2)}, {Part(0), Part(64)}, {Part(-1), Part(0)}, {Part(1), Part(0)}, {Part(0), Part(2), Part(1)}, {Part(0), Part(2), Part(2)}, {Part(63), Part(0)}, {Part(0), Part(-1), Part(1)}, {Part(63), Part(63)}, {Part(62), Part(63), Part(64)},
	}
}

// RoomyMail: the mail in new memory, with spare room behind each list in which there is something to lose.
func RoomyMail(m api.Mail) api.Mail {
	m.Parts = roomyList(m.Parts, Part(9, 70), func(p api.Part) api.Part { return api.Part{Cart: p.Cart, Body: RoomyBytes(p.Body)} })
	return m
}
