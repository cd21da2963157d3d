package gate

import (
	"hearth/api"
	"hearth/desk"
	"hearth/http"
	"hearth/stream"
)

// The ports from which subscribers are told.
const (
	firstPort = 40000
	lastPort  = 49999
	mostPorts = lastPort - firstPort + 1
)

// telling is a connection by which a subscriber is told.
type telling struct {
	line
	sid   string
	began uint64
	came  []byte // of the subscriber's answer
	done  bool   // It is known whether the subscriber was told.
}

// tellAll begins a telling for each subscriber that is to be told now.
func (g *Gate) tellAll() {
	// If no port is left they wait: an elder telling is gone within half a minute.
	for g.tellings.Len() < g.tellings.Most() {
		n, ok := g.desk.Subs.Next(g.now, g.desk.Vars())
		if !ok {
			return
		}
		g.tell(n)
	}
}

// tell begins a telling.
func (g *Gate) tell(n api.Note) {
	own := g.freePort()
	side, sent := stream.Dial(own, n.Port, uint32(g.draws.next()), g.now)
	side.Send(desk.Tell(n))
	t := &telling{line: line{side, own, end{n.Host, n.Port}}, sid: n.SID, began: g.now}
	g.tellings.Put(own, t)
	g.segments(n.Host, sent...)
}

// freePort gives the next port that no telling has; there must be one.
func (g *Gate) freePort() uint16 {
	for {
		port := g.port
		g.port++
		if g.port > lastPort {
			g.port = firstPort
		}
		if _, taken := g.tellings.Get(port); !taken {
			return port
		}
	}
}

// look goes through what has come of a telling, and sends what may be sent.
func (g *Gate) look(t *telling) {
	b := t.Read()
	if !t.done {
		t.came = append(t.came, b...)
		g.judge(t)
	}
	g.flush(t.line)
	if t.over() {
		g.tellings.Drop(t.own)
	}
}

// judge tells the desk whether the subscriber was told, once that is known.
func (g *Gate) judge(t *telling) {
	// More than 512 bytes need no look of their own: by then there is a status, or none is to come.
	status, more := http.Status(t.came)
	switch {
	case status != 0:
		g.finish(t, 200 <= status && status <= 299)
	case !more || t.Ended() || t.Phase() == api.Gone:
		g.fail(t)
	}
}

// finish ends a telling of which it is known whether the subscriber was told.
func (g *Gate) finish(t *telling, ok bool) {
	t.done, t.came = true, nil
	g.desk.Subs.Done(t.sid, ok, g.now)
	t.Close()
}

// fail lets a telling have failed, unless it is done.
func (g *Gate) fail(t *telling) {
	if !t.done {
		g.finish(t, false)
	}
}

func (g *Gate) breakTelling(t *telling) {
	g.cut(t.line)
	g.tellings.Drop(t.own)
}
