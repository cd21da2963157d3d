package maps_test

import (
	"fmt"
	"math"
	"slices"
	"testing"

	"hearth/api"
	"hearth/maps"
)

// The signatures that the chapter lists.
var (
	_ func(api.Config) *maps.Set                                               = maps.New
	_ func(*maps.Set, api.Addr, api.Entry, uint64, uint64) int                 = (*maps.Set).Add
	_ func(*maps.Set, api.Addr, api.Entry, uint64, uint64) (uint16, int)       = (*maps.Set).AddAny
	_ func(*maps.Set, api.Addr, api.Mapping) int                               = (*maps.Set).Delete
	_ func(*maps.Set, api.Addr, byte, uint16, uint16) int                      = (*maps.Set).DeleteRange
	_ func(*maps.Set, uint64) (api.Entry, int)                                 = (*maps.Set).At
	_ func(*maps.Set, api.Mapping) (api.Entry, int)                            = (*maps.Set).Find
	_ func(*maps.Set, byte, uint16, uint16, uint64) (es []api.Entry, code int) = (*maps.Set).Range
	_ func(*maps.Set, uint64) bool                                             = (*maps.Set).Expire
	_ func(*maps.Set, api.Config) bool                                         = (*maps.Set).Configure
	_ func(*maps.Set) func(func(api.Entry) bool)                               = (*maps.Set).All
	_ func(*maps.Set) []api.Mapping                                            = (*maps.Set).Rules
	_ func(*maps.Set) int                                                      = (*maps.Set).Len
	_ func(*maps.Set) uint32                                                   = (*maps.Set).Update
)

const (
	gate = 0xc0a80101
	a7   = 0xc0a80107
	a8   = 0xc0a80108
	far  = 0x08080808

	week = 604800
)

// config gives a configuration that is right, with room for so many mappings.
func config(most int, forwards ...api.Forward) api.Config {
	return api.Config{
		LanMAC: api.MAC{2, 0, 0, 0, 0, 1}, WanMAC: api.MAC{2, 0, 0, 0, 1, 1}, HopMAC: api.MAC{2, 0, 0, 0, 1, 2},
		LanAddr: gate, LanBits: 24, WanAddr: 0xcb007105,
		MaxSessions: 4, MaxMaps: most, MaxConns: 3, MaxSubs: 2,
		Forwards: forwards, UUID: "00000000-1111-2222-3333-444444444444",
	}
}

// forwards gives one of each of those ports, to .9.
func forwards(proto byte, ports ...uint16) []api.Forward {
	var out []api.Forward
	for _, p := range ports {
		out = append(out, api.Forward{Proto: proto, Port: p, To: 1, Host: 0xc0a80109})
	}
	return out
}

func tcp(ext uint16, host api.Addr, to uint16) api.Mapping {
	return api.Mapping{Proto: api.TCP, Ext: ext, To: to, Host: host}
}

func udp(ext uint16, host api.Addr, to uint16) api.Mapping {
	return api.Mapping{Proto: api.UDP, Ext: ext, To: to, Host: host}
}

// only gives a mapping for what comes from one remote address.
func only(m api.Mapping, remote api.Addr) api.Mapping {
	m.Remote = remote
	return m
}

// asked gives a mapping as it is asked for.
func asked(m api.Mapping) api.Entry { return api.Entry{Mapping: m, Enabled: true, Words: "words"} }

// add wants a mapping to be added by its host, for a week from the second 0 on.
func add(t *testing.T, s *maps.Set, all ...api.Mapping) {
	t.Helper()
	for _, m := range all {
		if code := s.Add(m.Host, asked(m), 0, 0); code != 0 {
			t.Fatalf("Add of %v: %d", m, code)
		}
	}
}

// of gives a Set of these mappings, with room for so many.
func of(t *testing.T, most int, all ...api.Mapping) *maps.Set {
	t.Helper()
	s := maps.New(config(most))
	add(t, s, all...)
	return s
}

// list gives all that All tells.
func list(s *maps.Set) []api.Entry { return slices.Collect(s.All()) }

// mappings gives the mappings of entries.
func mappings(all []api.Entry) []api.Mapping {
	var out []api.Mapping
	for _, e := range all {
		out = append(out, e.Mapping)
	}
	return out
}

// is wants a Set to have just these mappings, by whatever call they are told.
func is(t *testing.T, name string, s *maps.Set, want ...api.Mapping) {
	t.Helper()
	if got := mappings(list(s)); !slices.Equal(got, want) || s.Len() != len(want) {
		t.Errorf("%s: %d: %v, not %v", name, s.Len(), got, want)
	}
	for i, m := range want {
		at, code := s.At(uint64(i))
		if at.Mapping != m || code != 0 {
			t.Errorf("%s: At(%d): %v, %d, not %v", name, i, at, code, m)
		}
		if e, code := s.Find(m); e != at || code != 0 {
			t.Errorf("%s: Find(%v): %v, %d, not %v", name, m, e, code, at)
		}
	}
}

// look gives all that can be told of a Set.
func look(s *maps.Set) string { return fmt.Sprint(list(s), s.Rules(), s.Len(), s.Update()) }

// refused wants an answer, and nothing to have changed.
func refused(t *testing.T, name string, s *maps.Set, want int, call func() int) {
	t.Helper()
	before := look(s)
	if code := call(); code != want {
		t.Errorf("%s: %d, not %d", name, code, want)
	}
	if now := look(s); now != before {
		t.Errorf("%s: it has changed: %s, not %s", name, now, before)
	}
}

// refusedAny wants AddAny to answer that, with no port.
func refusedAny(t *testing.T, name string, s *maps.Set, want int, who api.Addr, e api.Entry, lease uint64) {
	t.Helper()
	refused(t, name, s, want, func() int {
		port, code := s.AddAny(who, e, lease, 5)
		if port != 0 {
			t.Errorf("%s: the port %d", name, port)
		}
		return code
	})
}

// anywhere wants AddAny to give a port, and to count that.
func anywhere(t *testing.T, name string, s *maps.Set, m api.Mapping, want uint16) {
	t.Helper()
	before := s.Update()
	if port, code := s.AddAny(m.Host, asked(m), 0, 0); port != want || code != 0 {
		t.Errorf("%s: %d, %d, not %d", name, port, code, want)
	}
	m.Ext = want
	if e, _ := s.Find(m); e.Mapping != m {
		t.Errorf("%s: there is %v, not %v", name, e.Mapping, m)
	}
	if s.Update() != before+1 {
		t.Errorf("%s: Update %d behind %d", name, s.Update(), before)
	}
}

func TestP20_1New(t *testing.T) {
	for _, most := range []int{1, 3, 256} {
		s := maps.New(config(most, forwards(api.TCP, 22)...))
		is(t, "New", s)
		if s.Update() != 0 || len(s.Rules()) != 0 {
			t.Errorf("%d, %v", s.Update(), s.Rules())
		}
		if e, code := s.At(0); e != (api.Entry{}) || code != api.BadIndex {
			t.Errorf("At(0): %v, %d", e, code)
		}
		if e, code := s.Find(api.Mapping{}); e != (api.Entry{}) || code != api.NoEntry {
			t.Errorf("Find: %v, %d", e, code)
		}
	}
}

// Each call that changes something counts once, however much it changes; no other call counts.
func TestP20_1Update(t *testing.T) {
	s := of(t, 9)
	for i, c := range []struct {
		name string
		call func()
		more uint32
	}{
		{"added", func() { s.Add(a7, asked(tcp(80, a7, 80)), 60, 0) }, 1},
		{"renewed", func() { s.Add(a7, asked(tcp(80, a7, 80)), 90, 0) }, 1},
		{"renewed, the same", func() { s.Add(a7, asked(tcp(80, a7, 80)), 90, 0) }, 1},
		{"refused", func() { s.Add(a8, asked(tcp(80, a8, 80)), 90, 0) }, 0},
		{"added anywhere", func() { s.AddAny(a8, asked(tcp(80, a8, 80)), 0, 0) }, 1},
		{"renewed anywhere", func() { s.AddAny(a8, asked(tcp(1024, a8, 80)), 0, 0) }, 1},
		{"refused anywhere", func() { s.AddAny(a7, asked(tcp(80, a8, 80)), 0, 0) }, 0},
		{"not deleted", func() { s.Delete(a7, tcp(1024, a8, 80)) }, 0},
		{"none to delete", func() { s.Delete(a7, tcp(81, a7, 80)) }, 0},
		{"deleted", func() { s.Delete(a8, tcp(1024, a8, 80)) }, 1},
		{"some more", func() { add(t, s, tcp(81, a7, 1), tcp(82, a7, 1), udp(80, a8, 1), udp(81, a8, 1)) }, 4},
		{"a range of none", func() { s.DeleteRange(a8, api.TCP, 0, 65535) }, 0},
		{"a range turned about", func() { s.DeleteRange(a7, api.TCP, 82, 80) }, 0},
		{"a range of two", func() { s.DeleteRange(a7, api.TCP, 81, 82) }, 1},
		{"told", func() {
			list(s)
			s.Rules()
			s.At(0)
			s.Find(tcp(80, a7, 80))
			s.Range(api.TCP, 0, 100, 0)
			s.Len()
		}, 0},
		{"none has ended", func() { s.Expire(89) }, 0},
		{"one has ended", func() { s.Expire(90) }, 1},
		{"two have ended", func() { s.Expire(week) }, 1},
		{"none is left", func() { s.Expire(math.MaxUint64) }, 0},
		{"two more", func() { add(t, s, tcp(81, a7, 1), tcp(82, a7, 1)) }, 2},
		{"configured, all stay", func() { s.Configure(config(2)) }, 0},
		{"configured, both are gone", func() { s.Configure(config(2, forwards(api.TCP, 81, 82)...)) }, 1},
		{"configured again", func() { s.Configure(config(2, forwards(api.TCP, 81, 82)...)) }, 0},
	} {
		before := s.Update()
		c.call()
		if got := s.Update() - before; got != c.more {
			t.Errorf("%d, %s: %d more, not %d", i, c.name, got, c.more)
		}
	}
}

// The chapter's example.
func TestP20_3Example(t *testing.T) {
	s := of(t, 3)
	if code := s.Add(a7, asked(tcp(80, a7, 80)), 0, 0); code != 0 {
		t.Error(code)
	}
	if code := s.Add(a8, asked(tcp(80, a8, 80)), 0, 0); code != api.Conflict {
		t.Error(code)
	}
	if port, code := s.AddAny(a8, asked(tcp(80, a8, 80)), 0, 0); port != 1024 || code != 0 {
		t.Error(port, code)
	}
	is(t, "example", s, tcp(80, a7, 80), tcp(1024, a8, 80))
}

// Of several errors the first one is told: each of these asks mends just what the one ahead of it was refused for.
func TestP20_2Order(t *testing.T) {
	s := maps.New(config(2, forwards(api.TCP, 22)...))
	add(t, s, tcp(80, a8, 80), udp(80, a8, 80))
	e := asked(api.Mapping{Proto: api.ICMP, Host: a8})
	lease, who := uint64(week+1), api.Addr(gate)
	for i, c := range []struct {
		want int
		mend func()
	}{
		{api.WildIntPort, func() { e.To = 80 }},
		{api.WildExtPort, func() { e.Ext = 22 }},
		{api.BadArgs, func() { e.Proto = api.TCP }},
		{api.NotAuthorized, func() { e.Host = gate }},
		{api.NotAuthorized, func() { e.Host, who = a7, a7 }},
		{api.BadArgs, func() { lease = week }},
		{api.OtherWay, func() { e.Ext = 80 }},
		{api.Conflict, func() { e.Ext = 81 }},
		{api.NoPortMaps, func() { s.Delete(a8, udp(80, a8, 80)) }},
	} {
		refused(t, fmt.Sprint(i), s, c.want, func() int { return s.Add(who, e, lease, 5) })
		c.mend()
	}
	if code := s.Add(who, e, lease, 5); code != 0 {
		t.Errorf("at last: %d", code)
	}
	is(t, "at last", s, tcp(80, a8, 80), tcp(81, a7, 80))
}

func TestP20_2Protocols(t *testing.T) {
	for proto := range 256 {
		s := of(t, 3)
		m := tcp(80, a7, 80)
		m.Proto = byte(proto)
		if proto == api.TCP || proto == api.UDP {
			add(t, s, m)
			is(t, fmt.Sprint(proto), s, m)
			continue
		}
		refused(t, fmt.Sprint(proto), s, api.BadArgs, func() int { return s.Add(a7, asked(m), 0, 0) })
		refusedAny(t, fmt.Sprint(proto), s, api.BadArgs, a7, asked(m), 0)
	}
}

func TestP20_2Ports(t *testing.T) {
	all := []uint16{1, 2, 1023, 1024, 65534, 65535}
	s := of(t, 9)
	for _, p := range all {
		add(t, s, tcp(p, a7, p))
		refused(t, fmt.Sprint("Ext 0, To ", p), s, api.WildExtPort, func() int { return s.Add(a7, asked(tcp(0, a7, p)), 0, 0) })
		refused(t, fmt.Sprint("To 0, Ext ", p), s, api.WildIntPort, func() int { return s.Add(a7, asked(tcp(p, a7, 0)), 0, 0) })
	}
	refused(t, "both 0", s, api.WildIntPort, func() int { return s.Add(a7, asked(tcp(0, a7, 0)), 0, 0) })
	if s.Len() != len(all) {
		t.Error(s.Len())
	}
}

// Nobody asks for another host, and only a host asks.
func TestP20_2Who(t *testing.T) {
	for _, c := range []struct {
		who, host api.Addr
		want      int
	}{
		{a7, a7, 0}, {0xc0a801fe, 0xc0a801fe, 0}, {0xc0a80102, 0xc0a80102, 0},
		{a7, a8, api.NotAuthorized}, {a8, a7, api.NotAuthorized}, {a7, 0, api.NotAuthorized}, {0, a7, api.NotAuthorized}, {gate, a7, api.NotAuthorized}, {a7, gate, api.NotAuthorized},
		{gate, gate, api.NotAuthorized}, {0xc0a80100, 0xc0a80100, api.NotAuthorized}, {0xc0a801ff, 0xc0a801ff, api.NotAuthorized}, {0xc0a80207, 0xc0a80207, api.NotAuthorized}, {0, 0, api.NotAuthorized}, {far, far, api.NotAuthorized}, {0xcb007105, 0xcb007105, api.NotAuthorized}, {0xffffffff, 0xffffffff, api.NotAuthorized},
	} {
		s := of(t, 3)
		name := fmt.Sprintf("%x for %x", c.who, c.host)
		e := asked(tcp(80, c.host, 80))
		if c.want == 0 {
			if code := s.Add(c.who, e, 0, 0); code != 0 || s.Len() != 1 {
				t.Errorf("%s: %d", name, code)
			}
			continue
		}
		refused(t, name, s, c.want, func() int { return s.Add(c.who, e, 0, 0) })
		refusedAny(t, name, s, c.want, c.who, e, 0)
	}
}

func TestP20_2Ends(t *testing.T) {
	for _, c := range []struct{ lease, now, ends uint64 }{
		{1, 0, 1}, {60, 10, 70}, {week - 1, 0, week - 1}, {week, 0, week}, {0, 0, week}, {0, 7, week + 7},
		{1, math.MaxUint64 - 2, math.MaxUint64 - 1}, {1, math.MaxUint64 - 1, math.MaxUint64}, {1, math.MaxUint64, math.MaxUint64},
		{2, math.MaxUint64 - 1, math.MaxUint64}, {0, math.MaxUint64, math.MaxUint64}, {0, math.MaxUint64 - week, math.MaxUint64}, {0, math.MaxUint64 - week + 1, math.MaxUint64}, {0, math.MaxUint64 - week - 1, math.MaxUint64 - 1},
		{week, math.MaxUint64, math.MaxUint64}, {1, 1 << 32, 1<<32 + 1},
	} {
		for _, told := range []uint64{0, 3, math.MaxUint64} { // what stands in Ends plays no part
			s := of(t, 3)
			e := asked(tcp(80, a7, 8080))
			e.Ends = told
			if code := s.Add(a7, e, c.lease, c.now); code != 0 {
				t.Errorf("%v: %d", c, code)
			}
			e.Ends = c.ends
			if got := list(s); len(got) != 1 || got[0] != e {
				t.Errorf("%v: %v, not %v", c, got, e)
			}
			u := asked(udp(80, a7, 8080))
			u.Ends = told
			if port, code := s.AddAny(a7, u, c.lease, c.now); port != 80 || code != 0 {
				t.Errorf("%v: %d, %d", c, port, code)
			}
			if got, _ := s.At(1); got.Ends != c.ends || got.Mapping != u.Mapping {
				t.Errorf("%v: AddAny: %v", c, got)
			}
		}
	}
	for _, lease := range []uint64{week + 1, week + 2, 1 << 32, 1<<32 + 60, math.MaxUint64} {
		s := of(t, 3)
		refused(t, fmt.Sprint(lease), s, api.BadArgs, func() int { return s.Add(a7, asked(tcp(80, a7, 80)), lease, 0) })
		refusedAny(t, fmt.Sprint(lease), s, api.BadArgs, a7, asked(tcp(80, a7, 80)), lease)
	}
}

// What is renewed has all of the new one.
func TestP20_2Renewed(t *testing.T) {
	s := of(t, 1, only(tcp(80, a7, 8080), far))
	for i, e := range []api.Entry{
		{Enabled: false, Words: "others"}, {Enabled: true}, {Enabled: false}, {Enabled: true, Words: "\x00\xff long"},
	} {
		e.Mapping = only(tcp(80, a7, 8080), far)
		if code := s.Add(a7, e, 60, uint64(i)); code != 0 {
			t.Errorf("%d: %d", i, code)
		}
		e.Ends = 60 + uint64(i)
		if got, code := s.Find(e.Mapping); got != e || code != 0 || s.Len() != 1 {
			t.Errorf("%d: %v, %d", i, got, code)
		}
	}
	if code := s.Add(a7, asked(only(tcp(80, a7, 8080), far)), 1, 0); code != 0 { // it may end sooner than it did
		t.Error(code)
	}
	if e, _ := s.At(0); e.Ends != 1 {
		t.Error(e)
	}
}

func TestP20_2OtherWay(t *testing.T) {
	s := maps.New(config(9, append(forwards(api.TCP, 22, 1024), forwards(api.UDP, 53)...)...))
	for _, m := range []api.Mapping{tcp(22, a7, 22), tcp(1024, a7, 1), only(tcp(22, a7, 22), far), udp(53, a7, 53), tcp(22, 0xc0a80109, 1)} {
		refused(t, fmt.Sprint(m), s, api.OtherWay, func() int { return s.Add(m.Host, asked(m), 0, 0) })
	}
	add(t, s, udp(22, a7, 22), udp(1024, a7, 1024), tcp(53, a7, 53), tcp(21, a7, 22), tcp(23, a7, 22))
}

// All of a port go to one host's one port, whichever senders they are for.
func TestP20_2Conflict(t *testing.T) {
	s := of(t, 9, tcp(80, a7, 8080), only(tcp(81, a7, 8081), far), only(tcp(82, a7, 8082), 0xffffffff), tcp(82, a7, 8082))
	for _, m := range []api.Mapping{
		tcp(80, a8, 8080), tcp(80, a7, 8081), tcp(80, a8, 8081), only(tcp(80, a8, 8080), far), only(tcp(80, a7, 8081), far),
		tcp(81, a8, 8081), tcp(81, a7, 8080), only(tcp(81, a7, 81), far), only(tcp(81, a8, 8081), far), only(tcp(81, a8, 8081), far+1), only(tcp(81, a7, 81), 1),
		only(tcp(82, a8, 8082), 1), only(tcp(82, a7, 1), 0xffffffff),
	} {
		refused(t, fmt.Sprint(m), s, api.Conflict, func() int { return s.Add(m.Host, asked(m), 0, 0) })
	}
	add(t, s, only(tcp(80, a7, 8080), far), only(tcp(80, a7, 8080), 1), tcp(81, a7, 8081), udp(80, a8, 1), tcp(79, a8, 8080))
	is(t, "Conflict", s, tcp(79, a8, 8080),
		tcp(80, a7, 8080), only(tcp(80, a7, 8080), 1), only(tcp(80, a7, 8080), far),
		tcp(81, a7, 8081), only(tcp(81, a7, 8081), far),
		tcp(82, a7, 8082), only(tcp(82, a7, 8082), 0xffffffff), udp(80, a8, 1))
}

// What is gone is in nobody's way.
func TestP20_2ConflictIsGone(t *testing.T) {
	s := of(t, 1, tcp(80, a7, 8080))
	s.Delete(a7, tcp(80, a7, 8080))
	add(t, s, tcp(80, a8, 1))
	s.Expire(week)
	add(t, s, tcp(80, a7, 2))
	is(t, "anew", s, tcp(80, a7, 2))
}

// One that has ended is in others' way till Expire is called.
func TestP20_2EndedStays(t *testing.T) {
	s := of(t, 1, tcp(80, a7, 8080))
	for _, m := range []api.Mapping{tcp(80, a8, 1), tcp(81, a8, 1)} {
		want := map[uint16]int{80: api.Conflict, 81: api.NoPortMaps}[m.Ext]
		refused(t, fmt.Sprint(m), s, want, func() int { return s.Add(a8, asked(m), 0, week+9) })
	}
}

func TestP20_2Full(t *testing.T) {
	for _, most := range []int{1, 2, 5, 256} {
		s := of(t, most)
		for i := range most {
			add(t, s, tcp(uint16(80+i), a7, 80))
		}
		for _, m := range []api.Mapping{tcp(79, a7, 80), udp(80, a7, 80), only(tcp(80, a7, 80), far), tcp(60000, a8, 80)} {
			refused(t, fmt.Sprint(most, m), s, api.NoPortMaps, func() int { return s.Add(m.Host, asked(m), 0, 0) })
		}
		refused(t, fmt.Sprint(most), s, api.Conflict, func() int { return s.Add(a8, asked(tcp(80, a8, 80)), 0, 0) })
		add(t, s, tcp(80, a7, 80)) // there is room for what is there
		s.Delete(a7, tcp(80, a7, 80))
		add(t, s, udp(80, a8, 80))
		refused(t, fmt.Sprint(most), s, api.NoPortMaps, func() int { return s.Add(a7, asked(tcp(80, a7, 80)), 0, 0) })
	}
}

// As of Add, but no port is wrong without, and room is asked for ahead of ports.
func TestP20_3Order(t *testing.T) {
	s := maps.New(config(2, forwards(api.TCP, 22)...))
	add(t, s, tcp(80, a8, 80), udp(80, a8, 80))
	e := asked(api.Mapping{Proto: api.ICMP, Host: a8, Ext: 22})
	lease, who := uint64(week+1), api.Addr(gate)
	for i, c := range []struct {
		want int
		mend func()
	}{
		{api.WildIntPort, func() { e.To = 80 }},
		{api.BadArgs, func() { e.Proto = api.TCP }},
		{api.NotAuthorized, func() { e.Host = gate }},
		{api.NotAuthorized, func() { e.Host, who = a7, a7 }},
		{api.BadArgs, func() { lease = week }},
		{api.NoPortMaps, func() { e.Ext = 80 }},
		{api.NoPortMaps, func() { e.Ext = 0 }},
		{api.NoPortMaps, func() { s.Delete(a8, udp(80, a8, 80)) }},
	} {
		refusedAny(t, fmt.Sprint(i), s, c.want, who, e, lease)
		c.mend()
	}
	if port, code := s.AddAny(who, e, lease, 5); port != 1024 || code != 0 {
		t.Errorf("at last: %d, %d", port, code)
	}
	is(t, "at last", s, tcp(80, a8, 80), tcp(1024, a7, 80))
}

// Its own port first, then those from 1024 on.
func TestP20_3Ports(t *testing.T) {
	s := maps.New(config(99, append(forwards(api.TCP, 22, 1025, 1027), forwards(api.UDP, 1024)...)...))
	anywhere(t, "free", s, tcp(80, a7, 80), 80)
	anywhere(t, "its own one again", s, tcp(80, a7, 80), 80)
	anywhere(t, "below 1024", s, tcp(1, a7, 80), 1)
	anywhere(t, "the last one", s, tcp(65535, a7, 80), 65535)
	anywhere(t, "none is asked for", s, tcp(0, a7, 80), 1024)
	anywhere(t, "none is asked for again: the same one is renewed", s, tcp(0, a7, 80), 1024)
	anywhere(t, "a forward's, by another", s, tcp(22, a8, 80), 1026)
	anywhere(t, "another's", s, tcp(80, a8, 81), 1028)
	anywhere(t, "to another port", s, tcp(80, a7, 81), 1029)
	anywhere(t, "for one sender, where all may send", s, only(tcp(80, a7, 80), far), 80)
	anywhere(t, "for one sender, by another", s, only(tcp(80, a8, 80), far), 1026)
	anywhere(t, "one that was picked for another", s, tcp(1026, a7, 7), 1030)
	anywhere(t, "a forward's, above", s, tcp(1027, a7, 7), 1030)
	anywhere(t, "a forward's of the other protocol", s, udp(1027, a7, 7), 1027)
	anywhere(t, "of the other protocol", s, udp(0, a7, 7), 1025)
	anywhere(t, "above what is taken", s, tcp(60000, a8, 60000), 60000)
	anywhere(t, "nothing above is tried first", s, tcp(60000, a7, 60000), 1031)
	is(t, "Ports", s, tcp(1, a7, 80), tcp(80, a7, 80), only(tcp(80, a7, 80), far), tcp(1024, a7, 80), tcp(1026, a8, 80), only(tcp(1026, a8, 80), far), tcp(1028, a8, 81), tcp(1029, a7, 81), tcp(1030, a7, 7), tcp(1031, a7, 60000), tcp(60000, a8, 60000), tcp(65535, a7, 80), udp(1025, a7, 7), udp(1027, a7, 7))
}

// As many as there may be: each port from 1024 on is taken once.
func TestP20_3Rises(t *testing.T) {
	s := maps.New(config(256, forwards(api.TCP, 1024, 1100, 1279)...))
	port := uint16(1024)
	for i := range 256 {
		for slices.Contains([]uint16{1024, 1100, 1279}, port) {
			port++
		}
		anywhere(t, fmt.Sprint(i), s, tcp(0, a7, uint16(i+1)), port)
		port++
	}
	refusedAny(t, "one more", s, api.NoPortMaps, a7, asked(tcp(0, a7, 999)), 0)
}

// Where there is no room, only what is there just so may be asked for.
func TestP20_3Full(t *testing.T) {
	s := of(t, 4, tcp(80, a7, 80), only(tcp(81, a7, 81), far), tcp(1024, a8, 80), tcp(1025, a7, 81))
	for _, m := range []api.Mapping{
		tcp(80, a8, 80), tcp(80, a7, 81), udp(80, a7, 80), only(tcp(80, a7, 80), far), tcp(81, a7, 81), only(tcp(81, a7, 81), far+1), only(tcp(81, a8, 81), far),
		tcp(0, a7, 80), tcp(0, a8, 80), tcp(82, a7, 80), tcp(1024, a7, 80), tcp(80, a8, 80),
	} {
		refusedAny(t, fmt.Sprint(m), s, api.NoPortMaps, m.Host, asked(m), 0)
	}
	anywhere(t, "there", s, tcp(80, a7, 80), 80)
	anywhere(t, "there for one sender", s, only(tcp(81, a7, 81), far), 81)
	anywhere(t, "there for another", s, tcp(1024, a8, 80), 1024)
	is(t, "Full", s, tcp(80, a7, 80), only(tcp(81, a7, 81), far), tcp(1024, a8, 80), tcp(1025, a7, 81))
}

// With more room than a configuration may have: where others have all ports, there is none.
func TestP20_3NoPortIsLeft(t *testing.T) {
	s := maps.New(config(1 << 20))
	for port := 1024; port < 65535; port++ {
		add(t, s, tcp(uint16(port), a8, 80))
	}
	anywhere(t, "the last one", s, tcp(0, a7, 80), 65535)
	s.Delete(a7, tcp(65535, a7, 80))
	add(t, s, tcp(65535, a8, 80))
	for _, ext := range []uint16{0, 1024, 65535} {
		if port, code := s.AddAny(a7, asked(tcp(ext, a7, 80)), 0, 0); port != 0 || code != api.NoPortMaps {
			t.Errorf("%d: %d, %d", ext, port, code)
		}
	}
	if s.Len() != 65536-1024 {
		t.Error(s.Len())
	}
	anywhere(t, "below", s, tcp(1023, a7, 80), 1023)
}

// What is taken has all that was asked for, but the port and Ends.
func TestP20_3Entry(t *testing.T) {
	s := of(t, 9, tcp(80, a7, 80))
	e := api.Entry{Mapping: only(tcp(80, a8, 8080), far), Enabled: false, Words: "what for", Ends: 7}
	if port, code := s.AddAny(a8, e, 60, 1000); port != 1024 || code != 0 {
		t.Error(port, code)
	}
	e.Ext, e.Ends = 1024, 1060
	if got, code := s.At(1); got != e || code != 0 {
		t.Errorf("%v, %d", got, code)
	}
	e.Enabled, e.Words = true, ""
	if port, code := s.AddAny(a8, e, 0, 1001); port != 1024 || code != 0 {
		t.Error(port, code)
	}
	e.Ends = 1001 + week
	if got, code := s.At(1); got != e || code != 0 {
		t.Errorf("renewed: %v, %d", got, code)
	}
}

func TestP20_4Delete(t *testing.T) {
	all := []api.Mapping{tcp(80, a7, 80), only(tcp(80, a7, 80), far), tcp(81, a8, 80), udp(80, a8, 80)}
	s := of(t, 9, all...)
	for _, m := range []api.Mapping{
		tcp(79, a7, 80), tcp(82, a7, 80), only(tcp(80, a7, 80), far+1), only(tcp(81, a8, 80), far), udp(81, a8, 80), {}, {Ext: 80, Host: a7, To: 80}, {Proto: api.ICMP, Ext: 80},
	} {
		refused(t, fmt.Sprint(m), s, api.NoEntry, func() int { return s.Delete(a7, m) })
		refused(t, fmt.Sprint(m), s, api.NoEntry, func() int { return s.Delete(0, m) })
	}
	for _, m := range all {
		for _, who := range []api.Addr{0, gate, a7, a8, 0xc0a80109, far} {
			if who != m.Host {
				refused(t, fmt.Sprint(m), s, api.NotAuthorized, func() int { return s.Delete(who, m) })
			}
		}
	}
	for i, m := range []api.Mapping{only(tcp(80, 0, 0), far), tcp(81, a7, 99), udp(80, far, 1), tcp(80, 0, 0)} { // by the key alone
		before := s.Update()
		who := []api.Addr{a7, a8, a8, a7}[i]
		if code := s.Delete(who, m); code != 0 || s.Update() != before+1 || s.Len() != 3-i {
			t.Errorf("%v: %d", m, code)
		}
		refused(t, fmt.Sprint(m), s, api.NoEntry, func() int { return s.Delete(who, m) })
	}
	is(t, "all are gone", s)
}

func TestP20_4DeleteRange(t *testing.T) {
	all := []api.Mapping{tcp(1, a7, 80), tcp(80, a7, 80), only(tcp(80, a7, 80), far), tcp(81, a8, 80), tcp(82, a7, 80), tcp(65535, a7, 80), udp(80, a8, 80), udp(81, a7, 80)}
	for _, c := range []struct {
		who      api.Addr
		proto    byte
		from, to uint16
		want     int
		gone     []int
	}{
		{a7, api.TCP, 80, 82, 0, []int{1, 2, 4}}, {a7, api.TCP, 80, 80, 0, []int{1, 2}}, {a7, api.TCP, 0, 65535, 0, []int{0, 1, 2, 4, 5}}, {a7, api.TCP, 0, 1, 0, []int{0}}, {a7, api.TCP, 65535, 65535, 0, []int{5}}, {a7, api.TCP, 81, 65534, 0, []int{4}},
		{a8, api.TCP, 0, 65535, 0, []int{3}}, {a8, api.TCP, 81, 81, 0, []int{3}}, {a8, api.UDP, 80, 81, 0, []int{6}}, {a7, api.UDP, 80, 81, 0, []int{7}},
		{a7, api.TCP, 1, 0, api.Inconsistent, nil}, {a7, api.TCP, 82, 80, api.Inconsistent, nil}, {0, 0, 65535, 0, api.Inconsistent, nil}, {far, api.ICMP, 2, 1, api.Inconsistent, nil},
		{a7, api.TCP, 81, 81, api.NotFound, nil}, {a8, api.TCP, 80, 80, api.NotFound, nil}, {a8, api.TCP, 82, 65535, api.NotFound, nil}, {a7, api.TCP, 0, 0, api.NotFound, nil}, {a7, api.TCP, 2, 79, api.NotFound, nil}, {a7, api.TCP, 83, 65534, api.NotFound, nil}, {a7, api.UDP, 80, 80, api.NotFound, nil},
		{0xc0a80109, api.TCP, 0, 65535, api.NotFound, nil}, {0, api.TCP, 0, 65535, api.NotFound, nil}, {gate, api.TCP, 0, 65535, api.NotFound, nil}, {a7, api.ICMP, 0, 65535, api.NotFound, nil}, {a7, 0, 0, 65535, api.NotFound, nil}, {a7, 255, 0, 65535, api.NotFound, nil}, {a7, api.TCP + 1, 0, 65535, api.NotFound, nil},
	} {
		s := of(t, 9, all...)
		name := fmt.Sprint(c)
		call := func() int { return s.DeleteRange(c.who, c.proto, c.from, c.to) }
		if c.want != 0 {
			refused(t, name, s, c.want, call)
			continue
		}
		before := s.Update()
		if code := call(); code != 0 || s.Update() != before+1 {
			t.Errorf("%s: %d, Update %d behind %d", name, code, s.Update(), before)
		}
		var left []api.Mapping
		for i, m := range all {
			if !slices.Contains(c.gone, i) {
				left = append(left, m)
			}
		}
		is(t, name, s, left...)
		refused(t, name, s, api.NotFound, call)
	}
}

func TestP20_5At(t *testing.T) {
	all := []api.Mapping{tcp(80, a7, 80), tcp(81, a7, 80), udp(7, a8, 80)}
	s := of(t, 9, all...)
	is(t, "At", s, all...)
	for _, i := range []uint64{3, 4, 9, 255, 1 << 31, 1 << 32, 1<<32 + 1, 1 << 63, 1<<63 + 1, math.MaxUint64 - 1, math.MaxUint64} {
		if e, code := s.At(i); e != (api.Entry{}) || code != api.BadIndex {
			t.Errorf("At(%d): %v, %d", i, e, code)
		}
	}
}

// What is asked for is found by its key alone, and told whole.
func TestP20_5Find(t *testing.T) {
	s := of(t, 9)
	e := api.Entry{Mapping: only(udp(80, a7, 8080), far), Enabled: true, Words: "w"}
	s.Add(a7, e, 60, 5)
	e.Ends = 65
	for _, m := range []api.Mapping{e.Mapping, only(udp(80, 0, 0), far), only(udp(80, a8, 99), far)} {
		if got, code := s.Find(m); got != e || code != 0 {
			t.Errorf("%v: %v, %d", m, got, code)
		}
	}
	for _, m := range []api.Mapping{only(tcp(80, a7, 8080), far), udp(80, a7, 8080), only(udp(80, a7, 8080), far+1), only(udp(81, a7, 8080), far), only(udp(79, a7, 8080), far), {}, {Proto: 255, Ext: 65535, Remote: 0xffffffff}} {
		if got, code := s.Find(m); got != (api.Entry{}) || code != api.NoEntry {
			t.Errorf("%v: %v, %d", m, got, code)
		}
	}
}

func TestP20_5Range(t *testing.T) {
	all := []api.Mapping{tcp(1, a7, 80), tcp(80, a7, 80), only(tcp(80, a7, 80), far), tcp(81, a8, 80), tcp(65535, a7, 80), udp(80, a8, 80), udp(65535, a7, 80)}
	s := of(t, 9, all...)
	for _, c := range []struct {
		proto       byte
		from, to    uint16
		want        int
		first, last int
	}{
		{api.TCP, 0, 65535, 0, 0, 5}, {api.TCP, 1, 65535, 0, 0, 5}, {api.TCP, 2, 65534, 0, 1, 4}, {api.TCP, 80, 80, 0, 1, 3}, {api.TCP, 81, 81, 0, 3, 4}, {api.TCP, 0, 80, 0, 0, 3}, {api.TCP, 65535, 65535, 0, 4, 5}, {api.TCP, 82, 65535, 0, 4, 5},
		{api.UDP, 0, 65535, 0, 5, 7}, {api.UDP, 0, 65534, 0, 5, 6}, {api.UDP, 81, 65535, 0, 6, 7},
		{api.TCP, 1, 0, api.Inconsistent, 0, 0}, {api.UDP, 65535, 65534, api.Inconsistent, 0, 0}, {0, 2, 1, api.Inconsistent, 0, 0},
		{api.TCP, 0, 0, api.NotFound, 0, 0}, {api.TCP, 2, 79, api.NotFound, 0, 0}, {api.TCP, 82, 65534, api.NotFound, 0, 0}, {api.UDP, 0, 79, api.NotFound, 0, 0}, {api.UDP, 81, 65534, api.NotFound, 0, 0},
		{api.ICMP, 0, 65535, api.NotFound, 0, 0}, {0, 0, 65535, api.NotFound, 0, 0}, {api.TCP + 1, 0, 65535, api.NotFound, 0, 0}, {api.UDP + 1, 0, 65535, api.NotFound, 0, 0}, {255, 0, 65535, api.NotFound, 0, 0},
	} {
		for _, most := range []uint64{0, 1, 2, 3, 4, 5, 6, 257, 1<<16 + 1, 1 << 32, 1<<32 + 1, 1 << 63, 1<<63 + 1, math.MaxUint64} {
			want := all[c.first:c.last]
			if most > 0 && most < uint64(len(want)) {
				want = want[:most]
			}
			got, code := s.Range(c.proto, c.from, c.to, most)
			if code != c.want || !slices.Equal(mappings(got), want) {
				t.Errorf("%v, at most %d: %v, %d, not %v", c, most, got, code, want)
			}
			if slices.ContainsFunc(got, func(e api.Entry) bool { return e.Ends != week || !e.Enabled || e.Words != "words" }) {
				t.Errorf("%v, at most %d: not whole: %v", c, most, got)
			}
		}
	}
}

func TestP20_6Expire(t *testing.T) {
	s := of(t, 9)
	for i, lease := range []uint64{60, 61, 60, 100, 0} {
		s.Add(a7, asked(tcp(uint16(80+i), a7, 80)), lease, 10)
	}
	for _, c := range []struct {
		now  uint64
		some bool
		left []uint16
	}{
		{0, false, []uint16{80, 81, 82, 83, 84}}, {69, false, []uint16{80, 81, 82, 83, 84}}, {70, true, []uint16{81, 83, 84}}, {70, false, []uint16{81, 83, 84}}, {71, true, []uint16{83, 84}}, {5, false, []uint16{83, 84}}, {200, true, []uint16{84}},
		{week + 9, false, []uint16{84}}, {week + 10, true, nil}, {math.MaxUint64, false, nil},
	} {
		if some := s.Expire(c.now); some != c.some {
			t.Errorf("%d: %t", c.now, some)
		}
		var want []api.Mapping
		for _, p := range c.left {
			want = append(want, tcp(p, a7, 80))
		}
		is(t, fmt.Sprint(c.now), s, want...)
	}
	s.Add(a7, asked(tcp(80, a7, 80)), 0, math.MaxUint64)
	if s.Expire(math.MaxUint64-1) || !s.Expire(math.MaxUint64) || s.Len() != 0 {
		t.Error("the last second")
	}
}

func TestP20_6ExpireRenewed(t *testing.T) {
	s := of(t, 9)
	s.Add(a7, asked(tcp(80, a7, 80)), 60, 0)
	s.Add(a7, asked(tcp(80, a7, 80)), 60, 50)
	if s.Expire(60) || s.Expire(109) || !s.Expire(110) {
		t.Error("it lasts until a minute behind the last Add")
	}
}

func TestP20_6Configure(t *testing.T) {
	all := []api.Mapping{tcp(80, a7, 80), only(tcp(80, a7, 80), far), tcp(81, a8, 80), tcp(82, 0xc0a801f0, 80), udp(80, a8, 80), udp(90, a7, 80)}
	for _, c := range []struct {
		name string
		do   func(*api.Config)
		left []int
	}{
		{"the same", func(c *api.Config) {}, []int{0, 1, 2, 3, 4, 5}},
		{"as many as there are", func(c *api.Config) { c.MaxMaps = 6 }, []int{0, 1, 2, 3, 4, 5}},
		{"more", func(c *api.Config) { c.MaxMaps = 256 }, []int{0, 1, 2, 3, 4, 5}},
		{"fewer", func(c *api.Config) { c.MaxMaps = 5 }, []int{0, 1, 2, 3, 4}},
		{"two", func(c *api.Config) { c.MaxMaps = 2 }, []int{0, 1}},
		{"one", func(c *api.Config) { c.MaxMaps = 1 }, []int{0}},
		{"a forward of TCP", func(c *api.Config) { c.Forwards = forwards(api.TCP, 80) }, []int{2, 3, 4, 5}},
		{"a forward of UDP", func(c *api.Config) { c.Forwards = forwards(api.UDP, 80) }, []int{0, 1, 2, 3, 5}},
		{"forwards of others", func(c *api.Config) { c.Forwards = append(forwards(api.TCP, 90, 79), forwards(api.UDP, 81, 82)...) }, []int{0, 1, 2, 3, 4, 5}},
		{"forwards of all", func(c *api.Config) { c.Forwards = append(forwards(api.TCP, 80, 81, 82), forwards(api.UDP, 80, 90)...) }, nil},
		{"another LanAddr in the net", func(c *api.Config) { c.LanAddr = a8 }, []int{0, 1, 3, 5}},
		{"another net", func(c *api.Config) { c.LanAddr = 0xc0a80201 }, nil},
		{"a smaller net", func(c *api.Config) { c.LanBits = 28 }, []int{0, 1, 2, 4, 5}},
		{"a net whose last address is .7", func(c *api.Config) { c.LanBits = 29 }, nil},
		{"a greater net", func(c *api.Config) { c.LanBits = 16 }, []int{0, 1, 2, 3, 4, 5}},
		{"another WanAddr", func(c *api.Config) { c.WanAddr, c.DMZ = far, a7 }, []int{0, 1, 2, 3, 4, 5}},
		// First what may not be there, then what there is no room for.
		{"forwards, and fewer", func(c *api.Config) { c.Forwards, c.MaxMaps = forwards(api.TCP, 80), 4 }, []int{2, 3, 4, 5}},
		{"forwards, and three", func(c *api.Config) { c.Forwards, c.MaxMaps = forwards(api.TCP, 80), 3 }, []int{2, 3, 4}},
		{"forwards behind, and three", func(c *api.Config) { c.Forwards, c.MaxMaps = forwards(api.UDP, 80, 90), 3 }, []int{0, 1, 2}},
		{"hosts, and three", func(c *api.Config) { c.LanAddr, c.MaxMaps = a7, 3 }, []int{2, 3, 4}},
	} {
		s := of(t, 9, all...)
		to := config(9)
		c.do(&to)
		before := s.Update()
		var want []api.Mapping
		for _, i := range c.left {
			want = append(want, all[i])
		}
		some := len(want) < len(all)
		if got := s.Configure(to); got != some {
			t.Errorf("%s: %t", c.name, got)
		}
		is(t, c.name, s, want...)
		if got := s.Update() - before; (got == 1) != some || got > 1 {
			t.Errorf("%s: Update %d more", c.name, got)
		}
		if s.Configure(to) {
			t.Errorf("%s: again: some more are gone", c.name)
		}
	}
}

// The configuration that came last is the one that holds.
func TestP20_6ConfigureHolds(t *testing.T) {
	s := of(t, 1, tcp(80, a7, 80))
	s.Configure(config(2, forwards(api.TCP, 81)...))
	refused(t, "a forward", s, api.OtherWay, func() int { return s.Add(a7, asked(tcp(81, a7, 80)), 0, 0) })
	add(t, s, tcp(82, a7, 80))
	refused(t, "full", s, api.NoPortMaps, func() int { return s.Add(a7, asked(tcp(83, a7, 80)), 0, 0) })
	other := config(1)
	other.LanAddr = 0x0a000001
	if !s.Configure(other) || s.Len() != 0 {
		t.Error("another net")
	}
	refused(t, "no host any more", s, api.NotAuthorized, func() int { return s.Add(a7, asked(tcp(80, a7, 80)), 0, 0) })
	add(t, s, tcp(81, 0x0a000007, 80))
	refused(t, "full", s, api.NoPortMaps, func() int { return s.Add(0x0a000007, asked(tcp(82, 0x0a000007, 80)), 0, 0) })
}

// By protocols, then by ports, then by senders, however they came.
func TestP20_6Order(t *testing.T) {
	want := []api.Mapping{
		tcp(1, a8, 9), tcp(2, a7, 9), only(tcp(2, a7, 9), 1), only(tcp(2, a7, 9), 2), only(tcp(2, a7, 9), 0xffffffff), tcp(256, a8, 1), tcp(257, a7, 1), tcp(65535, a7, 2),
		udp(1, a7, 5), only(udp(1, a7, 5), 256), udp(3, a7, 4), udp(65535, a8, 3),
	}
	for turn := range len(want) {
		s := of(t, 12)
		for i := range want {
			add(t, s, want[(i*5+turn)%len(want)])
		}
		is(t, fmt.Sprint(turn), s, want...)
	}
}

func TestP20_6AllEnds(t *testing.T) {
	s := of(t, 9, tcp(1, a7, 1), tcp(2, a7, 1), tcp(3, a7, 1), tcp(4, a7, 1))
	for stop := range 4 {
		calls := 0
		s.All()(func(e api.Entry) bool {
			calls++
			if int(e.Ext) != calls {
				t.Errorf("%d: %v", calls, e)
			}
			return calls <= stop
		})
		if calls != stop+1 {
			t.Errorf("told to end at %d: %d calls", stop, calls)
		}
	}
	all := s.All()
	s.Delete(a7, tcp(1, a7, 1))
	for range 2 { // it may be gone through again, and tells what is there then
		if got := mappings(slices.Collect(all)); !slices.Equal(got, []api.Mapping{tcp(2, a7, 1), tcp(3, a7, 1), tcp(4, a7, 1)}) {
			t.Error(got)
		}
	}
}

func TestP20_6Rules(t *testing.T) {
	s := of(t, 9)
	var want []api.Mapping
	for i := range 8 {
		m := only(tcp(uint16(90-i/2), a7, 1), api.Addr(i%2))
		e := asked(m)
		e.Enabled = i%3 != 1
		if code := s.Add(a7, e, 0, 0); code != 0 {
			t.Fatal(code)
		}
		if e.Enabled {
			want = append(want, m)
		}
	}
	slices.SortFunc(want, func(a, b api.Mapping) int {
		return (int(a.Ext)-int(b.Ext))*2 + int(a.Remote) - int(b.Remote)
	})
	if got := s.Rules(); !slices.Equal(got, want) {
		t.Errorf("%v, not %v", got, want)
	}
	off := asked(want[0])
	off.Enabled = false
	s.Add(a7, off, 0, 0)
	if got := s.Rules(); !slices.Equal(got, want[1:]) || s.Len() != 8 {
		t.Errorf("one fewer: %v, not %v", got, want[1:])
	}
}

// spoil writes over a configuration's memory.
func spoil(c api.Config) {
	all := c.Forwards[:cap(c.Forwards)]
	for i := range all {
		all[i] = api.Forward{Proto: api.UDP, Port: 7, To: 7, Host: a7}
	}
}

func TestP20_7NothingIsKept(t *testing.T) {
	c := config(9, forwards(api.TCP, 22, 23)...)
	s := maps.New(c)
	spoil(c)
	refused(t, "New", s, api.OtherWay, func() int { return s.Add(a7, asked(tcp(22, a7, 22)), 0, 0) })
	add(t, s, udp(7, a7, 7))
	c = config(9, forwards(api.TCP, 24)...)
	s.Configure(c)
	spoil(c)
	refused(t, "Configure", s, api.OtherWay, func() int { return s.Add(a7, asked(tcp(24, a7, 22)), 0, 0) })
	add(t, s, udp(7, a7, 7), tcp(22, a7, 22))
}

func TestP20_7NothingIsChanged(t *testing.T) {
	c := config(9, append(make([]api.Forward, 0, 9), forwards(api.TCP, 22, 23)...)...)
	room := slices.Clone(c.Forwards[:cap(c.Forwards)])
	s := maps.New(c)
	anywhere(t, "AddAny", s, tcp(22, a7, 22), 1024)
	s.Configure(c)
	s.Expire(week)
	if !slices.Equal(c.Forwards[:cap(c.Forwards)], room) {
		t.Error(c.Forwards)
	}
}

// Who writes over an answer, and the room behind it, changes nothing else.
func TestP20_7AnswersAreNew(t *testing.T) {
	s := of(t, 9, tcp(80, a7, 80), tcp(81, a7, 80), tcp(82, a7, 80))
	before := look(s)
	one, _ := s.Range(api.TCP, 80, 81, 0)
	two, _ := s.Range(api.TCP, 80, 82, 2)
	want := slices.Clone(two)
	clear(one[:cap(one)])
	if !slices.Equal(two, want) {
		t.Errorf("Range: %v", two)
	}
	clear(two[:cap(two)])
	rules, others := s.Rules(), s.Rules()
	clear(rules[:cap(rules)])
	if others[0] != tcp(80, a7, 80) {
		t.Errorf("Rules: %v", others)
	}
	if now := look(s); now != before {
		t.Errorf("%s, not %s", now, before)
	}
}

// Whatever .8 asks for, what .7 has stays as it is.
func TestP20_7OnlyItsOwn(t *testing.T) {
	own := []api.Mapping{tcp(1, a7, 80), tcp(80, a7, 80), only(tcp(80, a7, 80), far), tcp(1024, a7, 80), udp(80, a7, 80), udp(81, a7, 80)}
	s := of(t, 16, own...)
	before := list(s)
	for proto := range byte(20) {
		for _, ext := range []uint16{0, 1, 80, 81, 1024, 65535} {
			for _, host := range []api.Addr{a7, a8, gate} {
				e := asked(only(api.Mapping{Proto: proto, Ext: ext, To: 80, Host: host}, far*api.Addr(ext%2)))
				e.Enabled = false
				s.Add(a8, e, 1, 1)
				s.AddAny(a8, e, 1, 1)
				s.Delete(a8, e.Mapping)
				s.DeleteRange(a8, proto, ext, 65535)
				s.DeleteRange(a8, proto, 0, ext)
			}
		}
	}
	s.DeleteRange(a8, api.TCP, 0, 65535)
	s.DeleteRange(a8, api.UDP, 0, 65535)
	if got := list(s); !slices.Equal(got, before) {
		t.Errorf("%v, not %v", got, before)
	}
}

func TestP20_7SetsByThemselves(t *testing.T) {
	c := config(3, forwards(api.TCP, 22)...)
	one, two := maps.New(c), maps.New(c)
	add(t, one, tcp(80, a7, 80))
	is(t, "two", two)
	add(t, two, tcp(80, a8, 81))
	one.Configure(config(1))
	one.Expire(week)
	is(t, "one", one)
	is(t, "two", two, tcp(80, a8, 81))
	if one.Update() != 2 || two.Update() != 1 {
		t.Error(one.Update(), two.Update())
	}
}
