package stream

import "hearth/api"

// has tells whether a flag of a segment is set.
func has(s api.Segment, flag byte) bool { return s.Flags&flag != 0 }

// Take takes a segment of the other side.
func (c *Conn) Take(s api.Segment, now uint64) []api.Segment {
	switch {
	case c.over():
		return nil
	case c.phase == api.Dialing:
		return c.takeAnswer(s, now)
	case has(s, api.RST):
		c.takeRST(s)
		return nil
	case has(s, api.SYN):
		return c.takeSYN(s)
	case has(s, api.ACK):
		return c.takeACK(s, now)
	}
	return nil
}

// takeAnswer takes what is sent back to the SYN of Dial.
func (c *Conn) takeAnswer(s api.Segment, now uint64) []api.Segment {
	switch {
	case !has(s, api.ACK) || s.Ack != c.out.seq(firstByte):
		return nil
	case has(s, api.RST):
		c.phase = api.Gone
		return nil
	case has(s, api.SYN):
		c.in.begin(s.Seq)
		c.acknowledge(s, now)
		return c.answer(now, true)
	}
	return nil
}

func (c *Conn) takeRST(s api.Segment) {
	if s.Seq == c.in.ack() {
		c.phase = api.Gone
	}
}

// takeSYN takes a SYN that comes again, or comes too late.
func (c *Conn) takeSYN(s api.Segment) []api.Segment {
	switch {
	case c.phase == api.Open:
		return []api.Segment{c.plain()}
	case s.Seq == c.in.number:
		return []api.Segment{c.syn()}
	}
	return nil
}

func (c *Conn) takeACK(s api.Segment, now uint64) []api.Segment {
	c.acknowledge(s, now)
	if c.phase != api.Open {
		return nil
	}
	c.in.take(s)
	sent := c.answer(now, len(s.Data) > 0 || has(s, api.FIN))
	if c.in.ended && c.out.finished() {
		c.phase = api.Over
	}
	return sent
}

// acknowledge goes on by what a segment acknowledges. An Ack that can't be tells nothing of the window, either.
func (c *Conn) acknowledge(s api.Segment, now uint64) {
	k, ok := c.out.places(s.Ack)
	if !ok {
		return
	}
	c.out.window = uint64(s.Window)
	if k == 0 {
		return
	}
	c.out.acknowledge(k)
	c.phase, c.timer = api.Open, timer{}
	if c.out.una != c.out.most {
		c.timer.set(now)
	}
}

// answer sends what may be sent; an ACK in its stead, if one is due.
func (c *Conn) answer(now uint64, due bool) []api.Segment {
	sent := c.Flush(now)
	if len(sent) == 0 && due {
		return []api.Segment{c.plain()}
	}
	return sent
}
