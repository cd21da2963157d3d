package napt

import (
	"cmp"
	"math"
	"sort"

	"hearth/api"
	"hearth/flow"
	"hearth/track"
)

// session is one with what isn't told of it.
type session struct {
	api.Session
	given bool // Ext is its end's, not a rule's.
}

// renew lets a session last longer by what goes in it.
func (s *session) renew(l load, now uint64, out bool) {
	s.Lan = s.Lan || out
	if s.Flow.Proto == api.TCP {
		s.State = track.Next(s.State, l.flags, out)
	}
	s.Ends = now + min(track.Limit(s.Flow.Proto, s.State), math.MaxUint64-now)
}

// face is how a session is told on the WAN, and behind it how on the LAN, for by rules several may be told alike without.
type face struct{ without, within api.Flow }

func orderFaces(a, b face) int {
	return cmp.Or(flow.Order(a.without, b.without), flow.Order(a.within, b.within))
}

// without gives a session's flow as it is told on the WAN.
func (n *Nat) without(s *session) api.Flow {
	f := s.Flow
	f.Src, f.From = n.conf.WanAddr, s.Ext
	return f
}

func (n *Nat) faceOf(s *session) face { return face{n.without(s), s.Flow} }

// told gives the first session that is told so on the WAN.
func (n *Nat) told(without api.Flow) *session {
	i := sort.Search(n.faces.Len(), func(i int) bool {
		k, _, _ := n.faces.At(i)
		return flow.Order(k.without, without) >= 0
	})
	if k, s, ok := n.faces.At(i); ok && k.without == without {
		return s
	}
	return nil
}

// add gives a new session, with a rule's port or one that its end may own.
func (n *Nat) add(f api.Flow, ext uint16, given bool) *session {
	s := &session{Session: api.Session{Flow: f, Ext: ext}, given: given}
	n.sessions.Put(f, s)
	n.faces.Put(n.faceOf(s), s)
	if given {
		n.hold(endOf(f), ext)
	}
	return s
}

// drop takes a session out.
func (n *Nat) drop(s *session) {
	n.sessions.Drop(s.Flow)
	n.faces.Drop(n.faceOf(s))
	if s.given {
		n.leave(endOf(s.Flow))
	}
}

// share is an end's Ext, and how many sessions were given it.
type share struct {
	ext  uint16
	size int
}

// endOf gives the own side of a flow: as one to nowhere, so that flows' order is that of ends too.
func endOf(f api.Flow) api.Flow {
	return api.Flow{Proto: f.Proto, Src: f.Src, From: f.From}
}

// own gives the Ext of a flow's end, or one that is picked for it.
func (n *Nat) own(f api.Flow, draw uint64) (uint16, bool) {
	if own, ok := n.ends.Get(endOf(f)); ok {
		return own.ext, true
	}
	return n.ports(f.Proto).Pick(draw)
}

// mayOwn tells whether a port is an end's Ext, or may become it.
func (n *Nat) mayOwn(end api.Flow, ext uint16) bool {
	if own, ok := n.ends.Get(end); ok {
		return own.ext == ext
	}
	// Below 1024 no port is taken, even if a rule has it; of other ends none has one there.
	return !n.rules.has(end.Proto, ext) && !n.ports(end.Proto).Has(ext)
}

// hold lets one session more have an end's Ext.
func (n *Nat) hold(end api.Flow, ext uint16) {
	own, _ := n.ends.Get(end)
	n.ends.Put(end, share{ext, own.size + 1})
	n.ports(end.Proto).Take(ext)
}

// leave lets one fewer have it; with the last one it is free.
func (n *Nat) leave(end api.Flow) {
	own, _ := n.ends.Get(end)
	own.size--
	if own.size > 0 {
		n.ends.Put(end, own)
		return
	}
	n.ends.Drop(end)
	n.ports(end.Proto).Give(own.ext)
}
