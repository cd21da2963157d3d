package stream

import (
	"bytes"

	"hearth/api"
)

// segment gives one that is sent; its data are copied, for they may have to be sent again.
func (c *Conn) segment(place uint64, flags byte, data []byte) api.Segment {
	return api.Segment{
		From: c.from, To: c.to, Seq: c.out.seq(place), Ack: c.in.ack(), Flags: flags,
		Window: uint16(c.in.room()), Data: bytes.Clone(data),
	}
}

// syn gives the own SYN, which acknowledges the other one's, if that has come.
func (c *Conn) syn() api.Segment {
	if c.phase == api.Dialing {
		return c.segment(0, api.SYN, nil)
	}
	return c.segment(0, api.SYN|api.ACK, nil)
}

// plain gives an ACK alone.
func (c *Conn) plain() api.Segment { return c.segment(c.out.next, api.ACK, nil) }

// further sends the next bytes, or behind them the FIN; false: nothing may be sent.
func (c *Conn) further() (api.Segment, bool) {
	place := c.out.next
	if b := c.out.piece(); len(b) > 0 {
		c.out.send(len(b))
		return c.segment(place, api.PSH|api.ACK, b), true
	}
	if c.out.closed && place == c.out.fin {
		c.out.send(1)
		return c.segment(place, api.FIN|api.ACK, nil), true
	}
	return api.Segment{}, false
}
