package gate

import (
	"hearth/api"
	"hearth/conf"
	"hearth/ether"
	"hearth/icmp"
	"hearth/inet"
	"hearth/ssdp"
	"hearth/trans"
)

const (
	searchGroup api.Addr = 0xeffffffa // 239.255.255.250

	groups = 14 // the upper four bits of a group's address
	unused = 15

	noHost = 1 // the codes of what can't be reached
	noPort = 3
)

// upper gives the upper four bits of an address.
func upper(a api.Addr) api.Addr { return a >> 28 }

// isGroup tells whether an Ethernet address is that of many.
func isGroup(m api.MAC) bool { return m[0]&1 != 0 }

// takeLan takes a frame that comes on the LAN.
func (g *Gate) takeLan(b []byte) {
	f, err := ether.Read(b)
	if err != api.OK || isGroup(f.Src) || f.Dst != g.conf.LanMAC && !isGroup(f.Dst) {
		return
	}
	switch f.Kind {
	case api.KindARP:
		g.takeLanARP(f.Body)
	case api.KindIP:
		p, err := inet.Read(f.Body)
		if err == api.OK && conf.Host(g.conf, p.Src) {
			g.allToLan(g.cache.Learn(p.Src, f.Src, g.now))
			g.takeHosts(p, f.Dst == g.conf.LanMAC)
		}
	}
}

func (g *Gate) takeLanARP(b []byte) {
	a, err := ether.ReadARP(b)
	if err != api.OK {
		return
	}
	answer, asked, held := g.cache.Hear(g.conf, a, g.now)
	g.allToLan(held)
	if asked {
		g.arp(true, answer.To, answer)
	}
}

// takeHosts takes a host's packet; own tells whether its frame was for the gateway alone.
func (g *Gate) takeHosts(p api.Packet, own bool) {
	switch {
	case p.Dst == g.conf.LanAddr:
		if own {
			g.takeOwn(p)
		}
	case p.Dst == searchGroup:
		if d, ok := datagramOf(p); ok && d.To == api.SearchPort {
			g.search(p.Src, d)
		}
	case own && g.isOutside(p.Dst):
		g.goOut(p)
	}
}

// isOutside tells whether an address may be that of one beyond the LAN.
func (g *Gate) isOutside(a api.Addr) bool {
	return !inet.Within(a, g.conf.LanAddr, g.conf.LanBits) && upper(a) != groups && upper(a) != unused && a != 0
}

// goOut lets a host's packet go out; what it sends to the WAN's address comes in at once.
func (g *Gate) goOut(p api.Packet) {
	if p.TTL <= 1 {
		g.perhaps(icmp.Exceeded(g.conf.LanAddr, p))
		return
	}
	p.TTL--
	q, err := g.nat.Out(p, g.now, g.draws.next())
	switch {
	case err == api.ErrFull:
		g.perhaps(icmp.Unreachable(g.conf.LanAddr, p, noHost))
	case err != api.OK:
		// Nobody is told that it goes no further.
	case p.Dst == g.conf.WanAddr:
		g.comeIn(q)
	default:
		g.toWan(q)
	}
}

// takeOwn takes a packet for the gateway itself.
func (g *Gate) takeOwn(p api.Packet) {
	switch p.Proto {
	case api.ICMP:
		g.perhaps(icmp.Answer(p))
	case api.UDP:
		g.takeDatagram(p)
	case api.TCP:
		s, err := trans.ReadTCP(p.Src, p.Dst, p.Body)
		if err == api.OK {
			g.takeSegment(end{p.Src, s.From}, s)
		}
	}
}

// takeDatagram takes a datagram for the gateway itself, at none of whose ports there is anything but what answers searches.
func (g *Gate) takeDatagram(p api.Packet) {
	d, ok := datagramOf(p)
	switch {
	case !ok:
		return
	case d.To == api.SearchPort:
		g.search(p.Src, d)
	default:
		g.perhaps(icmp.Unreachable(g.conf.LanAddr, p, noPort))
	}
}

// datagramOf gives the datagram of a packet, if it has one.
func datagramOf(p api.Packet) (api.Datagram, bool) {
	if p.Proto != api.UDP {
		return api.Datagram{}, false
	}
	d, err := trans.ReadUDP(p.Src, p.Dst, p.Body)
	return d, err == api.OK
}

// search answers a host's search, if it is one.
func (g *Gate) search(host api.Addr, d api.Datagram) {
	g.texts(end{host, d.From}, ssdp.Search(g.conf, d.Data))
}
