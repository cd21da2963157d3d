package maps

import (
	"cmp"
	"math"
	"sort"
	"strings"

	"hearth/api"
	"hearth/conf"
)

// The ports among which one is looked for, if that which was asked for can't be had.
const (
	firstPort = 1024
	lastPort  = 65535
)

// key is what no two mappings have alike.
type key struct {
	proto  byte
	ext    uint16
	remote api.Addr
}

func keyOf(m api.Mapping) key { return key{m.Proto, m.Ext, m.Remote} }

func orderKeys(a, b key) int {
	return cmp.Or(cmp.Compare(a.proto, b.proto), cmp.Compare(a.ext, b.ext), cmp.Compare(a.remote, b.remote))
}

// when gives a code, if something is wrong, else 0.
func when(wrong bool, code int) int {
	if wrong {
		return code
	}
	return 0
}

// refusal tells what is wrong with what a host asks for, whatever its ports are; 0, if nothing is.
func (s *Set) refusal(who api.Addr, e api.Entry, lease uint64) int {
	return cmp.Or(
		when(e.Proto != api.TCP && e.Proto != api.UDP, api.BadArgs),
		when(e.Host != who || !conf.Host(s.conf, who), api.NotAuthorized),
		when(lease > api.MostLease, api.BadArgs))
}

// hindrance tells why a mapping may not be there for its host; 0, if it may.
func (s *Set) hindrance(m api.Mapping) int {
	_, there := s.entries.Get(keyOf(m))
	return cmp.Or(
		when(s.forwarded(m), api.OtherWay),
		when(s.conflicts(m), api.Conflict),
		when(!there && s.full(), api.NoPortMaps))
}

// forwarded tells whether the configuration itself has a mapping's port.
func (s *Set) forwarded(m api.Mapping) bool {
	_, ok := conf.Find(s.conf, m.Proto, m.Ext)
	return ok
}

// conflicts tells whether a mapping's port leads elsewhere by another one.
func (s *Set) conflicts(m api.Mapping) bool {
	for e := range s.between(m.Proto, m.Ext, m.Ext) {
		if e.Host != m.Host || e.To != m.To {
			return true
		}
	}
	return false
}

// full tells whether there are as many as there may be.
func (s *Set) full() bool { return s.Len() >= s.conf.MaxMaps }

// has tells whether there is just this mapping.
func (s *Set) has(m api.Mapping) bool {
	e, ok := s.entries.Get(keyOf(m))
	return ok && e.Mapping == m
}

// fits tells whether the configuration lets a mapping be there.
func (s *Set) fits(m api.Mapping) bool { return conf.Host(s.conf, m.Host) && !s.forwarded(m) }

// free gives the first port with which a mapping may be there, its own one ahead of all others.
func (s *Set) free(m api.Mapping) (uint16, bool) {
	if m.Ext != 0 && s.hindrance(m) == 0 {
		return m.Ext, true
	}
	for i := range lastPort - firstPort + 1 {
		m.Ext = uint16(firstPort + i)
		if s.hindrance(m) == 0 {
			return m.Ext, true
		}
	}
	return 0, false
}

// put lets a mapping be there till its lease ends.
func (s *Set) put(e api.Entry, lease, now uint64) {
	if lease == 0 {
		lease = api.MostLease
	}
	e.Ends = now + min(lease, math.MaxUint64-now)
	// A piece of a longer text would keep all of that as long as the mapping is there.
	e.Words = strings.Clone(e.Words)
	s.entries.Put(keyOf(e.Mapping), e)
	s.update++
}

// take takes away those of which a test says so; it tells whether there were some.
func (s *Set) take(gone func(api.Entry) bool) bool {
	before := s.Len()
	for k, e := range s.entries.All() {
		if gone(e) {
			s.entries.Drop(k)
		}
	}
	if s.Len() == before {
		return false
	}
	s.update++
	return true
}

// between gives those of some ports of a protocol, in order.
func (s *Set) between(proto byte, from, to uint16) func(func(api.Entry) bool) {
	return func(yield func(api.Entry) bool) {
		for i := s.place(key{proto: proto, ext: from}); ; i++ {
			k, e, ok := s.entries.At(i)
			if !ok || k.proto != proto || k.ext > to || !yield(e) {
				return
			}
		}
	}
}

// place tells how many mappings come ahead of a key.
func (s *Set) place(k key) int {
	return sort.Search(s.Len(), func(i int) bool {
		at, _, _ := s.entries.At(i)
		return orderKeys(at, k) >= 0
	})
}
