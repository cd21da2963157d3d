package maps_test

import (
	"fmt"
	"math"
	"math/rand"
	"slices"
	"testing"

	"hearth/api"
	"hearth/maps"
)

// model does what the chapter says by going through all that there is, each time anew.
type model struct {
	c      api.Config
	all    []api.Entry // in order
	update uint32
}

// host tells whether an address is a host's of a net of 24 bits, or fewer by 8.
func (m *model) host(a api.Addr) bool {
	behind := uint32(1)<<(32-m.c.LanBits) - 1
	own, other := uint32(m.c.LanAddr), uint32(a)
	return own&^behind == other&^behind && own != other && other&behind != 0 && other&behind != behind
}

func (m *model) forward(proto byte, port uint16) bool {
	for _, f := range m.c.Forwards {
		if f.Proto == proto && f.Port == port {
			return true
		}
	}
	return false
}

// sameKey tells whether two mappings have one key.
func sameKey(a, b api.Mapping) bool {
	return a.Proto == b.Proto && a.Ext == b.Ext && a.Remote == b.Remote
}

// place gives the place of the mapping of a key, -1 if there is none.
func (m *model) place(k api.Mapping) int {
	for i, e := range m.all {
		if sameKey(e.Mapping, k) {
			return i
		}
	}
	return -1
}

// may tells what is against a mapping for a host.
func (m *model) may(who api.Addr, n api.Mapping) int {
	if m.forward(n.Proto, n.Ext) {
		return 729
	}
	for _, e := range m.all {
		if e.Proto == n.Proto && e.Ext == n.Ext && (e.Host != who || e.To != n.To) {
			return 718
		}
	}
	if m.place(n) < 0 && len(m.all) >= m.c.MaxMaps {
		return 728
	}
	return 0
}

func (m *model) put(e api.Entry, lease, now uint64) {
	if lease == 0 {
		lease = 604800
	}
	e.Ends = now + lease
	if e.Ends < now {
		e.Ends = math.MaxUint64
	}
	if i := m.place(e.Mapping); i >= 0 {
		m.all[i] = e
	} else {
		m.all = append(m.all, e)
	}
	slices.SortFunc(m.all, func(a, b api.Entry) int {
		for _, d := range []int64{int64(a.Proto) - int64(b.Proto), int64(a.Ext) - int64(b.Ext), int64(a.Remote) - int64(b.Remote)} {
			if d != 0 {
				return int(d)
			}
		}
		return 0
	})
	m.update++
}

func (m *model) add(who api.Addr, e api.Entry, lease, now uint64) int {
	switch {
	case e.To == 0:
		return 732
	case e.Ext == 0:
		return 716
	case e.Proto != 6 && e.Proto != 17:
		return 402
	case e.Host != who, !m.host(who):
		return 606
	case lease > 604800:
		return 402
	}
	code := m.may(who, e.Mapping)
	if code == 0 {
		m.put(e, lease, now)
	}
	return code
}

func (m *model) addAny(who api.Addr, e api.Entry, lease, now uint64) (uint16, int) {
	switch {
	case e.To == 0:
		return 0, 732
	case e.Proto != 6 && e.Proto != 17:
		return 0, 402
	case e.Host != who, !m.host(who):
		return 0, 606
	case lease > 604800:
		return 0, 402
	}
	if i := m.place(e.Mapping); len(m.all) >= m.c.MaxMaps && (i < 0 || m.all[i].Host != e.Host || m.all[i].To != e.To) {
		return 0, 728
	}
	var ports []uint16
	if e.Ext != 0 {
		ports = append(ports, e.Ext)
	}
	for p := 1024; p < 65536; p++ {
		ports = append(ports, uint16(p))
	}
	for _, p := range ports {
		e.Ext = p
		if m.may(who, e.Mapping) == 0 {
			m.put(e, lease, now)
			return p, 0
		}
	}
	return 0, 728
}

// remove takes away what it is told; were there some?
func (m *model) remove(gone func(api.Entry) bool) bool {
	before := len(m.all)
	m.all = slices.DeleteFunc(m.all, gone)
	if len(m.all) == before {
		return false
	}
	m.update++
	return true
}

func (m *model) delete(who api.Addr, n api.Mapping) int {
	i := m.place(n)
	if i < 0 {
		return 714
	}
	if m.all[i].Host != who {
		return 606
	}
	m.remove(func(e api.Entry) bool { return sameKey(e.Mapping, n) })
	return 0
}

func among(e api.Entry, proto byte, from, to uint16) bool {
	return e.Proto == proto && e.Ext >= from && e.Ext <= to
}

func (m *model) deleteRange(who api.Addr, proto byte, from, to uint16) int {
	if from > to {
		return 733
	}
	if !m.remove(func(e api.Entry) bool { return e.Host == who && among(e, proto, from, to) }) {
		return 730
	}
	return 0
}

func (m *model) rangeOf(proto byte, from, to uint16, most uint64) ([]api.Entry, int) {
	if from > to {
		return nil, 733
	}
	var out []api.Entry
	for _, e := range m.all {
		if among(e, proto, from, to) && (most == 0 || uint64(len(out)) < most) {
			out = append(out, e)
		}
	}
	if len(out) == 0 {
		return nil, 730
	}
	return out, 0
}

func (m *model) configure(c api.Config) bool {
	m.c = c
	before := m.update
	some := m.remove(func(e api.Entry) bool { return !m.host(e.Host) || m.forward(e.Proto, e.Ext) })
	for len(m.all) > c.MaxMaps {
		m.all, some = m.all[:len(m.all)-1], true
	}
	m.update = before
	if some {
		m.update++
	}
	return some
}

// The few ends of which runs are made, so that they meet one another.
func oneOf[T interface{}](r *rand.Rand, all ...T) T { return all[r.Intn(len(all))] }

func someHost(r *rand.Rand) api.Addr {
	return oneOf[api.Addr](r, a7, a7, a7, a8, a8, a8, 0xc0a80207, gate, 0, far)
}

func somePort(r *rand.Rand) uint16 {
	return oneOf[uint16](r, 0, 1, 80, 81, 1023, 1024, 1025, 1026, 1027, 65535)
}

func someMapping(r *rand.Rand) api.Mapping {
	return api.Mapping{Proto: oneOf[byte](r, api.TCP, api.TCP, api.TCP, api.UDP, api.UDP, api.UDP, api.ICMP, 255), Ext: somePort(r), To: oneOf[uint16](r, 0, 80, 80, 80, 81, 65535),
		Remote: oneOf[api.Addr](r, 0, 0, 0, far, 0xffffffff), Host: someHost(r)}
}

func someConfig(r *rand.Rand) api.Config {
	c := config(oneOf(r, 1, 2, 4, 8, 40))
	c.LanAddr, c.LanBits = oneOf[api.Addr](r, gate, gate, gate, gate, 0xc0a80201), oneOf(r, 24, 24, 24, 16)
	for range r.Intn(4) {
		f := api.Forward{Proto: oneOf[byte](r, api.TCP, api.UDP), Port: max(somePort(r), 1), To: 7, Host: c.LanAddr + 1}
		if !slices.ContainsFunc(c.Forwards, func(g api.Forward) bool { return g.Proto == f.Proto && g.Port == f.Port }) {
			c.Forwards = append(c.Forwards, f)
		}
	}
	return c
}

// run is a Set, and a model that is given the same.
type run struct {
	*rand.Rand
	s    *maps.Set
	m    *model
	now  uint64
	went map[string]int // how often which answer was given
}

// who gives who asks for a mapping: most often the one for whom it is.
func (r *run) who(m api.Mapping) api.Addr {
	return oneOf(r.Rand, m.Host, m.Host, m.Host, someHost(r.Rand))
}

// known gives a mapping that is there, at times.
func (r *run) known(m api.Mapping) api.Mapping {
	if len(r.m.all) > 0 && r.Intn(2) == 0 {
		return oneOf(r.Rand, r.m.all...).Mapping
	}
	return m
}

// step does one thing that is drawn, and gives what is answered, and what the model answers.
func (r *run) step() (name, got, want string) {
	e := api.Entry{Mapping: r.known(someMapping(r.Rand)), Enabled: r.Intn(2) == 0, Words: oneOf(r.Rand, "", "a", "b"), Ends: r.Uint64()}
	who, from, to := r.who(e.Mapping), somePort(r.Rand), somePort(r.Rand)
	lease := oneOf[uint64](r.Rand, 0, 1, 30, 604800, 604801, r.Uint64())
	switch r.Intn(16) {
	case 0, 1, 2, 3:
		return "Add", fmt.Sprint(r.s.Add(who, e, lease, r.now)), fmt.Sprint(r.m.add(who, e, lease, r.now))
	case 4, 5, 6, 7:
		port, code := r.s.AddAny(who, e, lease, r.now)
		other, number := r.m.addAny(who, e, lease, r.now)
		return "AddAny", fmt.Sprint(code, port), fmt.Sprint(number, other)
	case 8:
		return "Delete", fmt.Sprint(r.s.Delete(who, e.Mapping)), fmt.Sprint(r.m.delete(who, e.Mapping))
	case 9:
		return "DeleteRange", fmt.Sprint(r.s.DeleteRange(who, e.Proto, from, to)), fmt.Sprint(r.m.deleteRange(who, e.Proto, from, to))
	case 10, 11:
		most := oneOf[uint64](r.Rand, 0, 1, 2, 8, math.MaxUint64)
		all, code := r.s.Range(e.Proto, from, to, most)
		others, number := r.m.rangeOf(e.Proto, from, to, most)
		return "Range", fmt.Sprint(code, all), fmt.Sprint(number, others)
	case 12:
		i := r.m.place(e.Mapping)
		told, code := r.s.Find(e.Mapping)
		if i < 0 {
			return "Find", fmt.Sprint(code, told), fmt.Sprint(714, api.Entry{})
		}
		return "Find", fmt.Sprint(code, told), fmt.Sprint(0, r.m.all[i])
	case 13, 14:
		r.now += oneOf[uint64](r.Rand, 0, 1, 29, 30, 604799)
		some := r.m.remove(func(e api.Entry) bool { return e.Ends <= r.now })
		return "Expire", fmt.Sprint(r.s.Expire(r.now)), fmt.Sprint(some)
	}
	if r.Intn(4) > 0 {
		return "none", "", ""
	}
	c := someConfig(r.Rand)
	return "Configure", fmt.Sprint(r.s.Configure(c)), fmt.Sprint(r.m.configure(c))
}

// hold holds all that a Set tells against the model.
func (r *run) hold(t *testing.T, name string) {
	t.Helper()
	if got := list(r.s); !slices.Equal(got, r.m.all) {
		t.Fatalf("%s: %v, not %v", name, got, r.m.all)
	}
	if r.s.Len() != len(r.m.all) || r.s.Update() != r.m.update {
		t.Fatalf("%s: Len %d, Update %d, not %d, %d", name, r.s.Len(), r.s.Update(), len(r.m.all), r.m.update)
	}
	var rules []api.Mapping
	for i, e := range r.m.all {
		if at, code := r.s.At(uint64(i)); at != e || code != 0 {
			t.Fatalf("%s: At(%d): %v, %d, not %v", name, i, at, code, e)
		}
		if e.Enabled {
			rules = append(rules, e.Mapping)
		}
	}
	if got := r.s.Rules(); !slices.Equal(got, rules) {
		t.Fatalf("%s: Rules: %v, not %v", name, got, rules)
	}
}

// guard holds what is there against what P20.7 lets be there.
func (r *run) guard(t *testing.T, before []api.Entry, name string) {
	t.Helper()
	for _, e := range list(r.s) {
		if e.Ends-r.now > week {
			t.Fatalf("%s: %v at %d", name, e, r.now)
		}
		i := slices.IndexFunc(before, func(o api.Entry) bool { return sameKey(o.Mapping, e.Mapping) })
		if i >= 0 && before[i].Host != e.Host {
			t.Fatalf("%s: %v was %v", name, e, before[i])
		}
	}
}

// begin gives a run on a Set without mappings.
func begin(seed int64) *run {
	r := rand.New(rand.NewSource(seed))
	c := someConfig(r)
	return &run{Rand: r, s: maps.New(c), m: &model{c: c}, went: map[string]int{}}
}

func TestP20_1To20_7Model(t *testing.T) {
	went := map[string]int{}
	for seed := range int64(300) {
		r := begin(seed)
		for i := range 200 {
			before := list(r.s)
			name, got, want := r.step()
			if got != want {
				t.Fatalf("seed %d, step %d: %s: %s, not %s", seed, i, name, got, want)
			}
			r.hold(t, fmt.Sprint("seed ", seed, ", step ", i, ": ", name))
			r.guard(t, before, fmt.Sprint("seed ", seed, ", step ", i, ": ", name))
			code := ""
			fmt.Sscan(got, &code)
			went[name+" "+code]++
		}
	}
	for _, s := range []string{
		"Add 0", "Add 732", "Add 716", "Add 402", "Add 606", "Add 729", "Add 718", "Add 728", "AddAny 0", "AddAny 732", "AddAny 402", "AddAny 606", "AddAny 728",
		"Delete 0", "Delete 714", "Delete 606", "DeleteRange 0", "DeleteRange 733", "DeleteRange 730", "Range 0", "Range 733", "Range 730", "Find 0", "Find 714", "Expire true", "Expire false", "Configure true", "Configure false",
	} {
		if went[s] < 20 {
			t.Errorf("%s: only %d times", s, went[s])
		}
	}
}

func TestP2Runs(t *testing.T) {
	drive := func(seed int64) string {
		r, out := begin(seed), ""
		for range 200 {
			name, got, _ := r.step()
			out += name + " " + got + " " + look(r.s) + "\n"
		}
		return out
	}
	for seed := range int64(20) {
		if one, two := drive(seed), drive(seed); one != two {
			t.Fatalf("seed %d: two runs differ:\n%s\n%s", seed, one, two)
		}
	}
}

// wildConfig gives a configuration of any numbers.
func wildConfig(r *rand.Rand) api.Config {
	c := api.Config{LanAddr: oneOf[api.Addr](r, 0, gate, api.Addr(r.Uint32())), LanBits: oneOf(r, -1, 0, 24, 32, 33, math.MinInt, math.MaxInt), MaxMaps: oneOf(r, -1, 0, 2, 1000, math.MinInt, math.MaxInt)}
	for range r.Intn(5) {
		c.Forwards = append(c.Forwards, api.Forward{Proto: byte(r.Uint32()), Port: somePort(r), To: somePort(r), Host: someHost(r)})
	}
	return c
}

// P1: no call panics, whatever it is given.
func TestP1Wild(t *testing.T) {
	for seed := range int64(300) {
		r := rand.New(rand.NewSource(seed))
		c := wildConfig(r)
		s := maps.New(c)
		for range 100 {
			e := api.Entry{Mapping: someMapping(r), Enabled: r.Intn(2) == 0, Words: string([]byte{byte(r.Uint32()), 0, 255}), Ends: r.Uint64()}
			who, lease, now := oneOf(r, e.Host, someHost(r)), oneOf(r, 0, 1, r.Uint64()), oneOf(r, 0, math.MaxUint64, r.Uint64())
			s.Add(who, e, lease, now)
			s.AddAny(who, e, lease, now)
			if s.Len() > max(c.MaxMaps, 0) || s.Len() != len(list(s)) {
				t.Fatalf("%d mappings of %d", s.Len(), c.MaxMaps)
			}
			s.At(r.Uint64())
			s.Find(e.Mapping)
			s.Range(byte(r.Uint32()), somePort(r), somePort(r), r.Uint64())
			s.Rules()
			switch r.Intn(9) {
			case 0:
				s.Delete(who, e.Mapping)
			case 1:
				s.DeleteRange(who, e.Proto, somePort(r), somePort(r))
			case 2:
				s.Expire(r.Uint64())
			case 3:
				c = wildConfig(r)
				s.Configure(c)
			}
		}
	}
}
