package known

import "barrow/api"

// Step: one step of a script.
func (s *Stack) Step(o api.Op) api.Answer {
	if err := s.place(o); err != api.OK {
		return api.Answer{Status: err}
	}
	switch o.Kind {
	case api.OpSet, api.OpAdd, api.OpRemove, api.OpClear:
		return api.Answer{Status: s.act(o, o.Cart, api.Past{})}
	case api.OpRemoveTo, api.OpClearTo:
		t, _ := s.Token(o.Num)
		return api.Answer{Status: s.act(o, t.Cart, t.Past)}
	case api.OpRead:
		return s.read(o)
	case api.OpSync, api.OpFull:
		return s.sync(o)
	case api.OpAsk:
		return s.ask(o)
	case api.OpPush:
		return s.push(o)
	case api.OpRestart:
		s.restart(o.Rep)
		return api.Answer{}
	}
	return s.handle(o)
}

// handle: what is done to a message that is under way.
func (s *Stack) handle(o api.Op) api.Answer {
	l := s.find(o.Num)
	switch o.Kind {
	case api.OpDeliver:
		return s.deliver(l)
	case api.OpCopy:
		double := *l
		s.letters = append(s.letters, double)
		return made(s.Made())
	case api.OpDrop:
		l.spent = true
	case api.OpTrim:
		if o.Qty < 1 {
			return api.Answer{Status: api.ErrArg}
		}
		l.Whole = false
	}
	return api.Answer{}
}

// place: are there the replicas, the cart, the token, the message that the op names?
func (s *Stack) place(o api.Op) api.Errno {
	_, held := s.Token(o.Num)
	switch k := o.Kind; {
	case k < api.OpSet || k > api.OpPush:
		return api.ErrKind
	case namesMessage(k) && s.find(o.Num) == nil:
		return api.ErrMsg
	case !namesMessage(k) && !s.isRep(o.Rep), namesTwo(k) && !s.isRep(o.To):
		return api.ErrRep
	case namesTwo(k) && o.To == o.Rep:
		return api.ErrSelf
	case namesCart(k) && (o.Cart < 0 || o.Cart >= s.head.Carts):
		return api.ErrCart
	case (k == api.OpRemoveTo || k == api.OpClearTo) && !held:
		return api.ErrToken
	}
	return api.OK
}

func (s *Stack) isRep(rep int) bool { return 0 <= rep && rep < s.head.Reps }

func namesMessage(kind int) bool { return api.OpDeliver <= kind && kind <= api.OpTrim }

func namesTwo(kind int) bool {
	return api.OpSync <= kind && kind <= api.OpAsk || kind == api.OpPush
}

func namesCart(kind int) bool {
	return api.OpSet <= kind && kind <= api.OpRead && kind != api.OpRemoveTo && kind != api.OpClearTo
}
