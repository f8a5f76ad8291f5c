package transfer

import "raddle/api"

// Check returns the error of a plan for parts of some sizes.
func Check(p Plan, senders, receivers []int) api.Errno {
	switch {
	case crowded(p) || len(senders) > api.MaxLocales || len(receivers) > api.MaxLocales:
		return api.ErrCount
	case !sized(senders) || !sized(receivers) || !right(p, senders, receivers):
		return ErrPlan
	}
	return api.OK
}

// crowded reports whether a plan has too many messages or strips.
func crowded(p Plan) bool {
	strips := 0
	for _, m := range p {
		strips += len(m.Strips)
	}
	return len(p) > api.MaxLocales*api.MaxLocales || strips > maxStrips
}

// sized reports whether all parts may have these sizes.
func sized(l []int) bool {
	for _, size := range l {
		if size < 0 || size > api.MaxElements {
			return false
		}
	}
	return true
}

// right reports whether a plan that is not too large is right for parts of possible sizes.
func right(p Plan, senders, receivers []int) bool {
	var written [api.MaxLocales][]bool
	for i, size := range receivers {
		written[i] = make([]bool, size)
	}
	ok := true
messages:
	for i, m := range p {
		ok = among(m.Sender, senders) && among(m.Receiver, receivers) && len(m.Strips) > 0 &&
			(i == 0 || follows(p[i-1], m))
		if !ok {
			break messages
		}
		for _, s := range m.Strips {
			ok = lies(s.From, s.Stride, s.Count, senders[m.Sender]) &&
				lies(s.To, s.Step, s.Count, receivers[m.Receiver]) && write(written[m.Receiver], s)
			if !ok {
				break messages
			}
		}
	}
	return ok
}

// among reports whether a number is that of one of the parts.
func among(n int, parts []int) bool { return n >= 0 && n < len(parts) }

// follows reports whether a message may stand behind another one.
func follows(ahead, m Message) bool {
	return m.Sender > ahead.Sender || m.Sender == ahead.Sender && m.Receiver > ahead.Receiver
}

// lies reports whether the numbers of one end of a strip are those of elements of a part.
func lies(first, apart, count, size int) bool {
	if count < 1 || count > api.MaxElements || first < 0 || first >= size {
		return false
	}
	if count == 1 {
		return true
	}
	// Numbers that are as far apart as the part is long leave it, and what lies between the ends might be no int.
	if apart <= -size || apart >= size {
		return false
	}
	last := first + (count-1)*apart
	return last >= 0 && last < size
}

// write marks what a strip writes of a part, and reports whether nothing of it was written before.
func write(written []bool, s Strip) bool {
	for k := range s.Count {
		to := s.To + k*s.Step
		if written[to] {
			return false
		}
		written[to] = true
	}
	return true
}
