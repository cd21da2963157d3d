package gate

import (
	"cmp"

	"hearth/api"
	"hearth/stream"
)

// end is a host's port.
type end struct {
	host api.Addr
	port uint16
}

func orderEnds(a, b end) int {
	return cmp.Or(cmp.Compare(a.host, b.host), cmp.Compare(a.port, b.port))
}

// line is the gateway's side of a TCP connection with a host.
type line struct {
	*stream.Conn
	own   uint16 // port
	other end
}

// over tells whether nothing more is to come of it.
func (l line) over() bool {
	return l.Phase() == api.Over || l.Phase() == api.Gone
}

// flush sends what may be sent.
func (g *Gate) flush(l line) { g.segments(l.other.host, l.Flush(g.now)...) }

// again sends anew what has waited too long.
func (g *Gate) again(l line) { g.segments(l.other.host, l.Tick(g.now)...) }

// cut tells the other side that there is no connection any more.
func (g *Gate) cut(l line) {
	g.segments(l.other.host, api.Segment{From: l.own, To: l.other.port, Flags: api.RST | api.ACK})
}

// takeSegment takes a segment for the gateway itself.
func (g *Gate) takeSegment(from end, s api.Segment) {
	if s.To == api.ServerPort {
		g.takeConn(from, s)
		return
	}
	t, ok := g.tellings.Get(s.To)
	if !ok || t.other != from {
		g.refuse(from, s)
		return
	}
	g.segments(from.host, t.Take(s, g.now)...)
	g.look(t)
}

// refuse tells that there is no such connection.
func (g *Gate) refuse(from end, s api.Segment) {
	if s.Flags&api.RST != 0 {
		return
	}
	back := api.Segment{From: s.To, To: s.From, Flags: api.RST, Seq: s.Ack}
	if s.Flags&api.ACK == 0 {
		back.Flags, back.Seq, back.Ack = api.RST|api.ACK, 0, s.Seq+places(s)
	}
	g.segments(from.host, back)
}

// places tells how many places a segment takes up.
func places(s api.Segment) uint32 {
	n := uint32(len(s.Data))
	if s.Flags&api.SYN != 0 {
		n++
	}
	if s.Flags&api.FIN != 0 {
		n++
	}
	return n
}
