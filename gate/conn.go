package gate

import (
	"hearth/api"
	"hearth/http"
	"hearth/stream"
	"hearth/track"
)

// conn is a host's connection to the server.
type conn struct {
	line
	parser  *http.Parser
	pending []byte // of the answers, what the stream had no room for
	came    uint64 // when something of it came last
	closing bool   // Behind what is pending it ends.
}

// takeConn takes a segment for the server.
func (g *Gate) takeConn(from end, s api.Segment) {
	c, known := g.conns.Get(from)
	switch {
	case known:
		g.segments(from.host, c.Take(s, g.now)...)
	case track.Begins(s.Flags) && g.conns.Len() < g.conns.Most():
		c = g.accept(from, s)
	default:
		g.refuse(from, s)
		return
	}
	c.came = g.now
	g.serve(c)
}

// accept gives a connection that a segment begins.
func (g *Gate) accept(from end, s api.Segment) *conn {
	side, sent := stream.Accept(s, uint32(g.draws.next()), g.now)
	c := &conn{line: line{side, api.ServerPort, from}, parser: http.New()}
	g.conns.Put(from, c)
	g.segments(from.host, sent...)
	return c
}

// serve answers what has come of a connection, and sends as much as may be sent.
func (g *Gate) serve(c *conn) {
	g.answer(c)
	if c.Ended() && c.parser.Idle() {
		c.closing = true
	}
	c.pending = c.pending[c.Send(c.pending):]
	if len(c.pending) > api.MaxPending {
		g.breakConn(c)
		return
	}
	if c.closing && len(c.pending) == 0 {
		c.Close()
	}
	g.flush(c.line)
	if c.over() {
		g.conns.Drop(c.other)
	}
}

// answer lets the desk answer what is read by now.
func (g *Gate) answer(c *conn) {
	read := c.parser.Feed(c.Read())
	for _, x := range read {
		draw := [...]uint64{g.draws.next(), g.draws.next()}
		response, keep := g.desk.Answer(x, c.other.host, g.now, draw)
		c.pending = append(c.pending, response...)
		if !keep {
			c.closing = true
			break
		}
	}
	if len(read) > 0 {
		g.followMaps()
	}
}

func (g *Gate) breakConn(c *conn) {
	g.cut(c.line)
	g.conns.Drop(c.other)
}
