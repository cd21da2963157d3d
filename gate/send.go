package gate

import (
	"hearth/api"
	"hearth/ether"
	"hearth/inet"
	"hearth/neigh"
	"hearth/octet"
	"hearth/trans"
)

// Whatever is sent was read from a frame, or is short: so there is room for it, and what is written below has no error.

const ownTTL = 64

// frame sends a frame, on the LAN or on the WAN.
func (g *Gate) frame(lan bool, f api.Frame) {
	b, _ := ether.Write(f)
	g.out = append(g.out, api.Out{Lan: lan, Data: b})
}

// arp sends an ARP packet from the gateway's side of it.
func (g *Gate) arp(lan bool, to api.MAC, a api.ARP) {
	b, _ := ether.WriteARP(a)
	g.frame(lan, api.Frame{Dst: to, Src: a.From, Kind: api.KindARP, Body: b})
}

// packet sends a packet in a frame.
func (g *Gate) packet(lan bool, from, to api.MAC, p api.Packet) {
	b, _ := inet.Write(p)
	g.frame(lan, api.Frame{Dst: to, Src: from, Kind: api.KindIP, Body: b})
}

// toWan sends a packet on the WAN.
func (g *Gate) toWan(p api.Packet) { g.packet(false, g.conf.WanMAC, g.conf.HopMAC, p) }

// toLan sends a packet on the LAN, or holds it until it is known where to.
func (g *Gate) toLan(p api.Packet) {
	if mac, ok := g.find(p.Dst); ok {
		g.packet(true, g.conf.LanMAC, mac, p)
	} else if g.cache.Hold(p, g.now) {
		g.arp(true, ether.All(), neigh.Ask(g.conf, p.Dst))
	}
}

// allToLan sends what was held, for instance.
func (g *Gate) allToLan(packets []api.Packet) {
	for _, p := range packets {
		g.toLan(p)
	}
}

// perhaps sends a packet on the LAN, if there is one.
func (g *Gate) perhaps(p api.Packet, ok bool) {
	if ok {
		g.toLan(p)
	}
}

// find gives the Ethernet address that an address of the LAN has.
func (g *Gate) find(a api.Addr) (api.MAC, bool) {
	if upper(a) == groups {
		return groupMAC(a), true
	}
	return g.cache.Find(a, g.now)
}

// groupMAC gives the Ethernet address of a group: it has no room for more than 23 bits of the group's own one.
func groupMAC(a api.Addr) api.MAC {
	m := api.MAC{1, 0, 94}
	copy(m[3:], octet.Num(3, uint64(a&0x7fffff)))
	return m
}

// own sends a packet of the gateway's own.
func (g *Gate) own(proto byte, to api.Addr, body []byte) {
	p := api.Packet{TTL: ownTTL, Proto: proto, ID: g.id, Src: g.conf.LanAddr, Dst: to, Body: body}
	g.id++
	g.toLan(p)
}

// segments sends segments to a host, whose port they tell.
func (g *Gate) segments(host api.Addr, list ...api.Segment) {
	for _, s := range list {
		b, _ := trans.WriteTCP(g.conf.LanAddr, host, s)
		g.own(api.TCP, host, b)
	}
}

// texts sends what is told by SSDP, a datagram each.
func (g *Gate) texts(to end, list [][]byte) {
	for _, text := range list {
		b, _ := trans.WriteUDP(g.conf.LanAddr, to.host, api.Datagram{From: api.SearchPort, To: to.port, Data: text})
		g.own(api.UDP, to.host, b)
	}
}
