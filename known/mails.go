package known

import "barrow/api"

// find: the message of that number, if it is under way.
func (s *Stack) find(n int) *letter {
	if n < 1 || n > len(s.letters) || s.letters[n-1].spent {
		return nil
	}
	return &s.letters[n-1]
}

// post: a message is made; its number.
func (s *Stack) post(m Mail, brings news) int {
	m.Carts, m.Whole = brings.carts(), true
	s.letters = append(s.letters, letter{Mail: m, brings: brings})
	return len(s.letters)
}

// sync: a delta of the items that the other one hasn't acknowledged, or a full mail.
func (s *Stack) sync(o api.Op) api.Answer {
	r := s.reps[o.Rep]
	lo := r.acked[o.To]
	if o.Kind == api.OpFull || lo < r.first {
		return made(s.post(Mail{Kind: api.MailFull, From: o.Rep, To: o.To, Hi: r.next()}, r.knows.copied()))
	}
	brings := news{}
	for _, item := range r.items[lo-r.first:] {
		brings.learnAll(item)
	}
	return made(s.post(Mail{Kind: api.MailDelta, From: o.Rep, To: o.To, Lo: lo, Hi: r.next()}, brings))
}

func made(n int) api.Answer { return api.Answer{Msg: n} }

// ask: a question that names the touched carts.
func (s *Stack) ask(o api.Op) api.Answer {
	named := news{}
	for _, cart := range s.reps[o.Rep].knows.carts() {
		named.learn(cart, nil)
	}
	return made(s.post(Mail{Kind: api.MailAsk, From: o.Rep, To: o.To}, named))
}

// push: one item of the log.
func (s *Stack) push(o api.Op) api.Answer {
	r := s.reps[o.Rep]
	if o.Num < 0 || o.Num >= len(r.items) {
		return api.Answer{Status: api.ErrArg}
	}
	place := len(r.items) - 1 - o.Num
	number := r.first + place
	return made(s.post(Mail{Kind: api.MailPush, From: o.Rep, To: o.To, Lo: number, Hi: number + 1}, r.items[place].copied()))
}

// deliver: the message is spent, and comes to its replica if nothing was cut off it.
func (s *Stack) deliver(l *letter) api.Answer {
	l.spent = true
	if !l.Whole {
		return api.Answer{Status: api.ErrBad}
	}
	r := s.reps[l.To]
	switch l.Kind {
	case api.MailAck:
		r.acked[l.From] = max(r.acked[l.From], l.Hi)
		return made(0)
	case api.MailAsk:
		return made(s.post(Mail{Kind: api.MailReply, From: l.To, To: l.From}, s.reply(l)))
	}
	s.take(r, l)
	if l.Kind == api.MailDelta || l.Kind == api.MailFull {
		return made(s.post(Mail{Kind: api.MailAck, From: l.To, To: l.From, Hi: l.Hi}, news{}))
	}
	return made(0)
}

// reply: all that the asked one knows, of the carts that the ask names and of those that it has touched.
func (s *Stack) reply(ask *letter) news {
	brings := ask.brings.copied()
	brings.learnAll(s.reps[ask.To].knows)
	return brings
}

// take: the replica knows what the message brings, and logs it.
func (s *Stack) take(r *replica, l *letter) {
	if len(l.brings) == 0 {
		return
	}
	r.knows.learnAll(l.brings)
	item := l.brings.copied()
	if l.Kind == api.MailReply {
		for cart := range item {
			item[cart] = r.knows[cart]
		}
	}
	r.log(item, s.head.Log)
}

// restart: the log is lost, and what was acknowledged.
func (s *Stack) restart(rep int) {
	r := s.reps[rep]
	s.reps[rep] = &replica{knows: r.knows, first: r.next()}
}
