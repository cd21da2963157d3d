package napt_test

import (
	"fmt"
	"math/rand"
	"slices"
	"testing"

	"hearth/api"
	"hearth/flow"
	"hearth/napt"
	"hearth/trans"
)

// held is a session of a model: told as the chapter tells it, without a table.
type held struct {
	api.Session
	given bool // It was given the Ext of its end.
}

// model does what the chapter says by going through all that there is, each time anew.
type model struct {
	c     api.Config
	rules []api.Mapping
	all   []*held // in order
}

func (m *model) sort() {
	slices.SortFunc(m.all, func(a, b *held) int { return flow.Order(a.Flow, b.Flow) })
}

// list gives the sessions as they are to be told.
func (m *model) list() []api.Session {
	var out []api.Session
	for _, s := range m.all {
		out = append(out, s.Session)
	}
	return out
}

func (m *model) remove(gone func(*held) bool) { m.all = slices.DeleteFunc(m.all, gone) }

// ruled tells whether a rule has a port.
func (m *model) ruled(proto byte, port uint16) bool {
	for _, r := range m.rules {
		if r.Proto == proto && r.Ext == port {
			return true
		}
	}
	for _, f := range m.c.Forwards {
		if f.Proto == proto && f.Port == port {
			return true
		}
	}
	return false
}

// kept tells whether a rule of a session's port goes to its host.
func (m *model) kept(s *held) bool {
	f := s.Flow
	for _, r := range m.rules {
		if r.Proto == f.Proto && r.Ext == s.Ext && r.Host == f.Src && r.To == f.From && (r.Remote == 0 || r.Remote == f.Dst) {
			return true
		}
	}
	for _, w := range m.c.Forwards {
		if w.Proto == f.Proto && w.Port == s.Ext && w.Host == f.Src && w.To == f.From {
			return true
		}
	}
	return false
}

func (m *model) setRules(maps []api.Mapping) {
	m.rules = slices.Clone(maps)
	m.remove(func(s *held) bool {
		return s.given && m.ruled(s.Flow.Proto, s.Ext) || !s.given && !m.kept(s)
	})
}

// end gives the Ext of an end.
func (m *model) end(proto byte, src api.Addr, from uint16) (uint16, bool) {
	for _, s := range m.all {
		if s.given && s.Flow.Proto == proto && s.Flow.Src == src && s.Flow.From == from {
			return s.Ext, true
		}
	}
	return 0, false
}

// ended tells whether a port is the Ext of an end of a protocol.
func (m *model) ended(proto byte, port uint16) bool {
	return slices.ContainsFunc(m.all, func(s *held) bool { return s.given && s.Flow.Proto == proto && s.Ext == port })
}

func (m *model) pick(proto byte, draw uint64) (uint16, bool) {
	for i := range uint64(64512) {
		port := uint16(1024 + (draw%64512+i)%64512)
		if !m.ruled(proto, port) && !m.ended(proto, port) {
			return port, true
		}
	}
	return 0, false
}

// extOf gives the Ext of a new session that goes out, and whether it is its end's.
func (m *model) extOf(f api.Flow, draw uint64) (ext uint16, given, ok bool) {
	for _, r := range m.rules {
		if r.Proto == f.Proto && r.Host == f.Src && r.To == f.From && (r.Remote == 0 || r.Remote == f.Dst) {
			return r.Ext, false, true
		}
	}
	for _, w := range m.c.Forwards {
		if w.Proto == f.Proto && w.Host == f.Src && w.To == f.From {
			return w.Port, false, true
		}
	}
	if ext, ok := m.end(f.Proto, f.Src, f.From); ok {
		return ext, true, true
	}
	ext, ok = m.pick(f.Proto, draw)
	return ext, true, ok
}

func (m *model) get(f api.Flow) *held {
	for _, s := range m.all {
		if s.Flow == f {
			return s
		}
	}
	return nil
}

// flagsOf gives the flags of a segment.
func flagsOf(p api.Packet) byte {
	s, _ := trans.ReadTCP(p.Src, p.Dst, p.Body)
	return s.Flags
}

// asks tells whether a query is a question.
func asks(p api.Packet) bool { return p.Body[0] == 8 }

// beginsNone tells whether there is no new session of a packet, though there be room.
func beginsNone(p api.Packet) bool {
	flags := flagsOf(p)
	return p.Proto == api.TCP && (flags&api.SYN == 0 || flags&api.ACK != 0 || flags&api.RST != 0)
}

func over(s api.State) bool { return s.Rst || s.FinOut && s.FinIn }

// renew renews a session by a packet, as chapters 11 and 12 say.
func (s *held) renew(p api.Packet, now uint64, out bool) {
	limit := uint64(60)
	switch p.Proto {
	case api.UDP:
		limit = 300
	case api.TCP:
		flags := flagsOf(p)
		syn, fin := flags&api.SYN != 0, flags&api.FIN != 0
		switch {
		case out && over(s.State) && !beginsNone(p):
			s.State = api.State{SynOut: true}
		case out:
			s.State.SynOut, s.State.FinOut = s.State.SynOut || syn, s.State.FinOut || fin
			s.State.Rst = s.State.Rst || flags&api.RST != 0
		default:
			s.State.SynIn, s.State.FinIn = s.State.SynIn || syn, s.State.FinIn || fin
			s.State.Rst = s.State.Rst || flags&api.RST != 0
		}
		limit = 240
		if s.State.SynOut && s.State.SynIn && !over(s.State) {
			limit = 7440
		}
	}
	s.Ends = now + limit
	if s.Ends < now {
		s.Ends = 1<<64 - 1
	}
}

func (m *model) add(s *held) *held {
	m.all = append(m.all, s)
	m.sort()
	return s
}

// out gives the flow into which Out rewrites a packet.
func (m *model) out(p api.Packet, now, draw uint64) (api.Flow, api.Errno) {
	f, kind, err := flow.Of(p)
	if err != api.OK {
		return api.Flow{}, err
	}
	s := m.get(f)
	if kind == api.CarriesError {
		if s == nil || p.Src != f.Src {
			return api.Flow{}, api.ErrNone
		}
		return m.outer(s), api.OK
	}
	if kind == api.CarriesQuery && !asks(p) {
		return api.Flow{}, api.ErrNone
	}
	if s == nil {
		if beginsNone(p) {
			return api.Flow{}, api.ErrNone
		}
		if len(m.all) >= m.c.MaxSessions {
			return api.Flow{}, api.ErrFull
		}
		ext, given, ok := m.extOf(f, draw)
		if !ok {
			return api.Flow{}, api.ErrFull
		}
		s = m.add(&held{Session: api.Session{Flow: f, Ext: ext}, given: given})
	}
	s.Lan = true
	s.renew(p, now, true)
	return m.outer(s), api.OK
}

func (m *model) outer(s *held) api.Flow {
	return api.Flow{Proto: s.Flow.Proto, Src: m.c.WanAddr, Dst: s.Flow.Dst, From: s.Ext, To: s.Flow.To}
}

// first gives the first session that is told so on the WAN.
func (m *model) first(f api.Flow) *held {
	for _, s := range m.all {
		if s.Flow.Proto == f.Proto && s.Ext == f.To && s.Flow.Dst == f.Src && s.Flow.To == f.From {
			return s
		}
	}
	return nil
}

// in gives the flow into which In rewrites a packet.
func (m *model) in(p api.Packet, now uint64) (api.Flow, api.Errno) {
	f, kind, err := flow.Of(p)
	if err != api.OK {
		return api.Flow{}, err
	}
	if f.Dst != m.c.WanAddr || kind == api.CarriesQuery && asks(p) {
		return api.Flow{}, api.ErrNone
	}
	s := m.first(f)
	if kind == api.CarriesData {
		s, err = m.inData(p, f)
	} else if s == nil || !s.Lan {
		err = api.ErrNone
	}
	if err != api.OK {
		return api.Flow{}, err
	}
	if kind != api.CarriesError {
		s.renew(p, now, false)
	}
	return flow.Turn(s.Flow), api.OK
}

func (m *model) inData(p api.Packet, f api.Flow) (*held, api.Errno) {
	for _, remote := range []api.Addr{f.Src, 0} {
		for _, r := range m.rules {
			if r.Proto == f.Proto && r.Ext == f.To && r.Remote == remote {
				return m.into(p, f, r.Host, r.To, false)
			}
		}
	}
	if s := m.first(f); s != nil && s.Lan {
		return s, api.OK
	}
	for _, w := range m.c.Forwards {
		if w.Proto == f.Proto && w.Port == f.To {
			return m.into(p, f, w.Host, w.To, false)
		}
	}
	d := m.c.DMZ
	if d == 0 || m.ruled(f.Proto, f.To) {
		return nil, api.ErrNone
	}
	if ext, ok := m.end(f.Proto, d, f.To); ok && ext != f.To || !ok && m.ended(f.Proto, f.To) {
		return nil, api.ErrNone
	}
	return m.into(p, f, d, f.To, true)
}

func (m *model) into(p api.Packet, f api.Flow, host api.Addr, port uint16, given bool) (*held, api.Errno) {
	within := api.Flow{Proto: f.Proto, Src: host, Dst: f.Src, From: port, To: f.From}
	if s := m.get(within); s != nil {
		if s.Ext != f.To {
			return nil, api.ErrNone
		}
		return s, api.OK
	}
	if beginsNone(p) {
		return nil, api.ErrNone
	}
	if len(m.all) >= m.c.MaxSessions {
		return nil, api.ErrFull
	}
	return m.add(&held{Session: api.Session{Flow: within, Ext: f.To}, given: given}), api.OK
}

func (m *model) expire(now uint64) { m.remove(func(s *held) bool { return s.Ends <= now }) }

// The few ends of which runs are made, so that they meet one another.
func oneOf[T any](r *rand.Rand, all ...T) T { return all[r.Intn(len(all))] }

func someHost(r *rand.Rand) api.Addr { return oneOf[api.Addr](r, host, host+1, dmz) }

func someFar(r *rand.Rand) api.Addr { return oneOf[api.Addr](r, far, far+1, own) }

func somePort(r *rand.Rand) uint16 {
	return oneOf[uint16](r, 0, 7, 80, 1023, 1024, 1025, 1026, 1027, 5000, 65535)
}

func someFlags(r *rand.Rand) byte {
	return oneOf[byte](r, api.SYN, api.SYN, api.SYN, api.SYN|api.ACK, api.ACK, api.FIN|api.ACK, api.RST, 255)
}

// someData gives data, or a query, between two addresses.
func someData(r *rand.Rand, src, dst api.Addr) api.Packet {
	from, to := somePort(r), somePort(r)
	switch r.Intn(5) {
	case 0, 1:
		return datagram(src, dst, from, to)
	case 2, 3:
		return segment(src, dst, from, to, someFlags(r))
	}
	return echo(src, dst, oneOf[byte](r, 0, 8), from)
}

// someOut gives a packet that comes from the LAN: at times an error that tells of one that went in.
func someOut(r *rand.Rand, wentIn []api.Packet) api.Packet {
	if len(wentIn) > 0 && r.Intn(6) == 0 {
		p := oneOf(r, wentIn...)
		return tells(oneOf(r, p.Dst, someHost(r)), p.Src, p)
	}
	return someData(r, someHost(r), someFar(r))
}

// answerTo gives what an other end may send when a packet has come.
func answerTo(r *rand.Rand, p api.Packet) api.Packet {
	f, kind, _ := flow.Of(p)
	switch {
	case kind == api.CarriesError || r.Intn(4) == 0:
		return tells(oneOf(r, p.Dst, far+9), oneOf(r, p.Src, host), p)
	case kind == api.CarriesQuery:
		return echo(p.Dst, p.Src, 0, f.From)
	case f.Proto == api.TCP:
		return segment(f.Dst, f.Src, f.To, f.From, someFlags(r))
	}
	return datagram(f.Dst, f.Src, f.To, f.From)
}

// someIn gives a packet that comes from the WAN.
func someIn(r *rand.Rand, wentOut []api.Packet) api.Packet {
	if len(wentOut) > 0 && r.Intn(2) == 0 {
		return answerTo(r, oneOf(r, wentOut...))
	}
	return someData(r, someFar(r), oneOf[api.Addr](r, own, own, own, own, host))
}

func someRules(r *rand.Rand) []api.Mapping {
	maps := make([]api.Mapping, r.Intn(7))
	for i := range maps {
		maps[i] = api.Mapping{Proto: oneOf[byte](r, api.TCP, api.TCP, api.UDP, api.UDP, api.ICMP, 99), Ext: somePort(r), To: somePort(r),
			Remote: oneOf[api.Addr](r, 0, 0, far, far+1), Host: someHost(r)}
	}
	return maps
}

func someConfig(r *rand.Rand) api.Config {
	c := config()
	c.MaxSessions = oneOf(r, 1, 3, 8, 40)
	c.DMZ = oneOf[api.Addr](r, 0, dmz, dmz)
	for range r.Intn(4) {
		f := api.Forward{Proto: oneOf[byte](r, api.TCP, api.UDP), Port: max(somePort(r), 1), To: max(somePort(r), 1), Host: someHost(r)}
		if !slices.ContainsFunc(c.Forwards, func(g api.Forward) bool { return g.Proto == f.Proto && g.Port == f.Port }) {
			c.Forwards = append(c.Forwards, f)
		}
	}
	return c
}

// run is a Nat, a model that is given the same, and what has gone out and in.
type run struct {
	*rand.Rand
	t               *testing.T
	n               *napt.Nat
	m               *model
	now             uint64
	wentOut, wentIn []api.Packet
	went            map[string]int // how often which answer was given
}

// step does one thing that is drawn.
func (r *run) step() {
	switch r.Intn(20) {
	case 0:
		maps := someRules(r.Rand)
		r.n.Rules(maps...)
		r.m.setRules(maps)
	case 1, 2:
		r.now += oneOf[uint64](r.Rand, 0, 1, 59, 60, 61, 240, 300)
		r.n.Expire(r.now)
		r.m.expire(r.now)
	case 3, 4, 5, 6, 7, 8, 9, 10:
		p, draw := someOut(r.Rand, r.wentIn), oneOf[uint64](r.Rand, 0, 0, 1, 3976, 64511, r.Uint64())
		q, err := r.n.Out(p, r.now, draw)
		f, want := r.m.out(p, r.now, draw)
		r.wentOut = r.hold("Out", p, q, err, f, want, r.wentOut)
	default:
		p := someIn(r.Rand, r.wentOut)
		q, err := r.n.In(p, r.now)
		f, want := r.m.in(p, r.now)
		r.wentIn = r.hold("In", p, q, err, f, want, r.wentIn)
	}
}

// hold holds an answer against the model's, and gives all that went with it.
func (r *run) hold(name string, p, q api.Packet, err api.Errno, f api.Flow, want api.Errno, all []api.Packet) []api.Packet {
	r.t.Helper()
	r.went[fmt.Sprint(name, want)]++
	wanted := api.Packet{}
	if want == api.OK {
		wanted, _ = flow.Rewrite(p, f)
		all = append(all, wanted)
	}
	if err != want || !samePacket(q, wanted) {
		r.t.Fatalf("%s of %v at %d: %v, %v, not %v, %v", name, p, r.now, q, err, wanted, want)
	}
	return all[max(0, len(all)-12):]
}

// P12.1 to P12.8: whatever is called, Out, In and the sessions are as the model tells.
func TestP12_1To12_8Model(t *testing.T) {
	went := map[string]int{}
	for seed := range int64(300) {
		r := rand.New(rand.NewSource(seed))
		c := someConfig(r)
		run := &run{Rand: r, t: t, n: napt.New(c), m: &model{c: c}, went: went}
		for i := range 400 {
			run.step()
			if got, want := sessions(run.n), run.m.list(); !slices.Equal(got, want) || run.n.Len() != len(want) {
				t.Fatalf("seed %d, step %d: Len %d,\n%v, not\n%v", seed, i, run.n.Len(), got, want)
			}
			apart(t, run.m)
		}
	}
	for _, name := range []string{"Out", "In"} {
		for _, err := range []api.Errno{api.OK, api.ErrNone, api.ErrFull} {
			if n := went[fmt.Sprint(name, err)]; n < 1000 {
				t.Errorf("only %d times %s answers %v", n, name, err)
			}
		}
	}
}

// apart holds the ends of a model, which tells what the Nat does, against P12.8.
func apart(t *testing.T, m *model) {
	t.Helper()
	type door struct {
		proto byte
		ext   uint16
	}
	has := map[door]api.Flow{}
	for _, s := range m.all {
		if !s.given {
			continue
		}
		d, end := door{s.Flow.Proto, s.Ext}, api.Flow{Proto: s.Flow.Proto, Src: s.Flow.Src, From: s.Flow.From}
		if other, ok := has[d]; ok && other != end {
			t.Fatalf("%v and %v have the Ext %d", end, other, s.Ext)
		}
		has[d] = end
		if m.ruled(d.proto, d.ext) {
			t.Fatalf("%v has the Ext %d, as a rule has", end, s.Ext)
		}
	}
}
