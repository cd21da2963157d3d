package gate

import (
	"hearth/api"
	"hearth/conf"
	"hearth/ether"
	"hearth/inet"
)

// The kinds of ARP packets.
const (
	question = 1
	reply    = 2
)

// takeWan takes a frame that comes on the WAN.
func (g *Gate) takeWan(b []byte) {
	f, err := ether.Read(b)
	if err != api.OK || f.Dst != g.conf.WanMAC {
		return
	}
	switch f.Kind {
	case api.KindARP:
		g.takeWanARP(f.Body)
	case api.KindIP:
		p, err := inet.Read(f.Body)
		if err == api.OK && g.mayComeIn(p) {
			p.TTL--
			g.comeIn(p)
		}
	}
}

// takeWanARP answers the question for the own address there.
func (g *Gate) takeWanARP(b []byte) {
	a, err := ether.ReadARP(b)
	if err != api.OK || a.Op != question || a.Dst != g.conf.WanAddr {
		return
	}
	g.arp(false, a.From, api.ARP{Op: reply, From: g.conf.WanMAC, To: a.From, Src: g.conf.WanAddr, Dst: a.Src})
}

// mayComeIn tells whether a packet of the WAN comes to the gateway from where it may, and may go further.
func (g *Gate) mayComeIn(p api.Packet) bool {
	return p.Src != 0 && p.Src != g.conf.WanAddr && !inet.Within(p.Src, g.conf.LanAddr, g.conf.LanBits) &&
		p.Dst == g.conf.WanAddr && p.TTL > 1
}

// comeIn lets a packet come in, if a host awaits it, or a rule leads to one.
func (g *Gate) comeIn(p api.Packet) {
	q, err := g.nat.In(p, g.now)
	g.perhaps(q, err == api.OK && conf.Host(g.conf, q.Dst))
}
