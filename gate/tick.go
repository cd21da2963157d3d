package gate

import (
	"hearth/api"
	"hearth/ssdp"
)

const (
	mostSeconds = 1 << 32 // that go by at once
	lastSecond  = 1 << 62
	aliveFor    = 900 // seconds from which on it is told anew that the device is there
)

// tick lets some seconds go by.
func (g *Gate) tick(seconds uint64) {
	g.now = min(g.now+min(seconds, mostSeconds), lastSecond)
	g.desk.Expire(g.now)
	g.followMaps()
	g.nat.Expire(g.now)
	g.cache.Expire(g.now)
	for _, c := range g.conns.All() {
		g.tickConn(c)
	}
	for _, t := range g.tellings.All() {
		g.tickTelling(t)
	}
	if g.now >= g.alive {
		g.texts(end{searchGroup, api.SearchPort}, ssdp.Alive(g.conf))
		g.alive = g.now + aliveFor
	}
}

func (g *Gate) tickConn(c *conn) {
	if g.now-c.came >= api.MaxStill {
		g.breakConn(c)
		return
	}
	g.again(c.line)
	g.serve(c)
}

func (g *Gate) tickTelling(t *telling) {
	if g.now-t.began >= api.MaxTelling {
		g.fail(t)
		g.breakTelling(t)
		return
	}
	g.again(t.line)
	g.look(t)
}
