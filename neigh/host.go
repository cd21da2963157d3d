package neigh

import (
	"math"
	"slices"

	"hearth/api"
	"hearth/conf"
)

const (
	mostHosts   = 256
	mostPackets = 16
	knownFor    = 300 // seconds, a host's address
	heldFor     = 3   // seconds, a packet
)

// host is what is known of one, and when that is forgotten.
type host struct {
	mac  api.MAC
	ends uint64
}

func (h host) forgotten(now uint64) bool { return h.ends <= now }

// waiting is a packet that is held, and when it came.
type waiting struct {
	api.Packet
	came uint64
}

func (w waiting) old(now uint64) bool { return now-min(now, w.came) >= heldFor }

// later gives the second that is so many seconds behind now.
func later(now, seconds uint64) uint64 { return now + min(seconds, math.MaxUint64-now) }

// believed tells whether what an ARP packet tells of its sender is learned. (No host has the Ethernet address of a group.)
func believed(c api.Config, a api.ARP) bool { return conf.Host(c, a.Src) && a.From[0]&1 == 0 }

// first gives the host that is forgotten ahead of all others, of several the one with the least address.
func (c *Cache) first() api.Addr {
	first, least, _ := c.hosts.At(0)
	for a, h := range c.hosts.All() {
		if h.ends < least.ends {
			first, least = a, h
		}
	}
	return first
}

// give gives the packets that are held for a host, and holds them no more.
func (c *Cache) give(a api.Addr) []api.Packet {
	var out []api.Packet
	for _, w := range c.held {
		if w.Dst == a {
			out = append(out, w.Packet)
		}
	}
	c.leave(func(w waiting) bool { return w.Dst == a })
	return out
}

// leave leaves those packets out of which a test says so.
func (c *Cache) leave(gone func(waiting) bool) { c.held = slices.DeleteFunc(c.held, gone) }
