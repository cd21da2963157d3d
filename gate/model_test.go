package gate_test

import (
	"fmt"
	"slices"
	"testing"

	"hearth/api"
	"hearth/conf"
	"hearth/desk"
	"hearth/ether"
	"hearth/gate"
	"hearth/http"
	"hearth/icmp"
	"hearth/inet"
	"hearth/napt"
	"hearth/neigh"
	"hearth/ssdp"
	"hearth/stream"
	"hearth/track"
	"hearth/trans"
)

// model is a gateway told as the chapter tells it; the layers below are taken at their word.
type model struct {
	c     api.Config
	now   uint64
	nat   *napt.Nat
	desk  *desk.Desk
	cache *neigh.Cache
	conns []*modelConn
	tells []*modelTell
	draws []uint64
	used  uint64
	id    uint16
	port  int
	alive uint64
	out   []api.Out
	met   map[string]int
}

type modelConn struct {
	host    api.Addr
	port    uint16
	side    *stream.Conn
	parser  *http.Parser
	waits   string
	heard   uint64
	closing bool
}

type modelTell struct {
	own   int
	host  api.Addr
	port  uint16
	side  *stream.Conn
	sid   string
	began uint64
	came  string
	done  bool
}

func newModel(c api.Config, met map[string]int) *model {
	return &model{c: c, nat: napt.New(c), desk: desk.New(c), cache: neigh.New(), port: 40000, met: met}
}

func (m *model) draw() uint64 {
	if len(m.draws) == 0 {
		m.met["a draw that follows"]++
		m.used = 6364136223846793005*m.used + 1442695040888963407
		return m.used
	}
	m.used = m.draws[0]
	m.draws = m.draws[1:]
	return m.used
}

func (m *model) frame(lan bool, from, to api.MAC, kind uint16, body []byte) {
	m.out = append(m.out, api.Out{Lan: lan, Data: bytesOf(api.Frame{Dst: to, Src: from, Kind: kind, Body: body})})
}

func (m *model) onLan(p api.Packet) {
	if p.Dst&0xf0000000 == 0xe0000000 {
		m.frame(true, m.c.LanMAC, api.MAC{1, 0, 94, byte(p.Dst>>16) & 0x7f, byte(p.Dst >> 8), byte(p.Dst)}, 0x0800, carried(p))
	} else if to, ok := m.cache.Find(p.Dst, m.now); ok {
		m.frame(true, m.c.LanMAC, to, 0x0800, carried(p))
	} else if m.cache.Hold(p, m.now) {
		m.met["asked for"]++
		m.frame(true, m.c.LanMAC, api.MAC{255, 255, 255, 255, 255, 255}, 0x0806, arped(neigh.Ask(m.c, p.Dst)))
	}
}

func (m *model) own(p api.Packet) {
	p.TTL, p.ID, p.Src = 64, m.id, m.c.LanAddr
	m.id++
	m.onLan(p)
}

func (m *model) segments(host api.Addr, list []api.Segment) {
	for _, s := range list {
		m.own(tcp(m.c.LanAddr, host, s))
	}
}

func (m *model) datagrams(host api.Addr, to uint16, list [][]byte) {
	for _, b := range list {
		m.own(udp(m.c.LanAddr, host, 1900, to, string(b)))
	}
}

func (m *model) rules() {
	m.nat.Rules(m.desk.Maps.Rules()...)
}

func (m *model) step(e api.Event) []api.Out {
	m.out = nil
	switch e.Kind {
	case 1:
		m.lan(e.Data)
	case 2:
		m.wan(e.Data)
	case 3:
		m.tick(e.N)
	case 4:
		if len(m.draws) < 64 {
			m.draws = append(m.draws, e.N)
		}
	case 5:
		m.conf(e.Conf)
	}
	for len(m.tells) < 10000 {
		n, ok := m.desk.Subs.Next(m.now, m.desk.Vars())
		if !ok {
			break
		}
		m.met["telling"]++
		for slices.ContainsFunc(m.tells, func(x *modelTell) bool { return x.own == m.port }) {
			m.port = (m.port-40000+1)%10000 + 40000
		}
		x := &modelTell{own: m.port, host: n.Host, port: n.Port, sid: n.SID, began: m.now}
		m.port = (m.port-40000+1)%10000 + 40000
		var out []api.Segment
		x.side, out = stream.Dial(uint16(x.own), n.Port, uint32(m.draw()), m.now)
		x.side.Send(desk.Tell(n))
		m.tells = append(m.tells, x)
		m.segments(n.Host, out)
	}
	return m.out
}

func (m *model) tick(n uint64) {
	m.now = min(m.now+min(n, 1<<32), 1<<62)
	m.desk.Expire(m.now)
	m.rules()
	m.nat.Expire(m.now)
	m.cache.Expire(m.now)
	conns := slices.Clone(m.conns)
	slices.SortFunc(conns, func(a, b *modelConn) int {
		return int(int64(a.host)<<16+int64(a.port)) - int(int64(b.host)<<16+int64(b.port))
	})
	for _, c := range conns {
		if m.now >= c.heard+60 {
			m.met["a still connection"]++
			m.brokenConn(c)
			continue
		}
		m.segments(c.host, c.side.Tick(m.now))
		m.served(c)
	}
	tells := slices.Clone(m.tells)
	slices.SortFunc(tells, func(a, b *modelTell) int { return a.own - b.own })
	for _, x := range tells {
		if m.now >= x.began+30 {
			m.met["a telling too long"]++
			if !x.done {
				m.failed(x)
			}
			m.segments(x.host, []api.Segment{{From: uint16(x.own), To: x.port, Flags: 4 + 16}})
			m.tells = slices.DeleteFunc(m.tells, func(y *modelTell) bool { return y == x })
			continue
		}
		m.segments(x.host, x.side.Tick(m.now))
		m.looked(x)
	}
	if m.now >= m.alive {
		m.met["alive"]++
		m.datagrams(0xeffffffa, 1900, ssdp.Alive(m.c))
		m.alive = m.now + 900
	}
}

func (m *model) conf(c api.Config) {
	if conf.Check(c) != api.OK {
		m.met["a wrong configuration"]++
		return
	}
	m.met["a configuration"]++
	m.c = c
	for _, x := range m.tells {
		if !x.done {
			m.met["a telling ends by a configuration"]++
			m.failed(x)
		}
	}
	m.conns, m.tells = nil, nil
	m.desk.Configure(c)
	m.nat = napt.New(c)
	m.rules()
	m.cache = neigh.New()
}

func (m *model) wan(b []byte) {
	f, err := ether.Read(b)
	if err != api.OK || f.Dst != m.c.WanMAC {
		return
	}
	if a, err := ether.ReadARP(f.Body); f.Kind == 0x0806 && err == api.OK && a.Op == 1 && a.Dst == m.c.WanAddr {
		m.met["ARP on the WAN"]++
		m.frame(false, m.c.WanMAC, a.From, 0x0806, arped(api.ARP{Op: 2, From: m.c.WanMAC, To: a.From, Src: m.c.WanAddr, Dst: a.Src}))
	}
	p, err := inet.Read(f.Body)
	if f.Kind != 0x0800 || err != api.OK || p.Src == 0 || p.Src == m.c.WanAddr || inet.Within(p.Src, m.c.LanAddr, m.c.LanBits) || p.Dst != m.c.WanAddr || p.TTL < 2 {
		return
	}
	p.TTL--
	m.in(p, "in")
}

func (m *model) in(p api.Packet, name string) {
	if q, err := m.nat.In(p, m.now); err == api.OK && conf.Host(m.c, q.Dst) {
		m.met[fmt.Sprint(name, " ", p.Proto)]++
		m.onLan(q)
	}
}

func (m *model) perhaps(name string, p api.Packet, ok bool) {
	if ok {
		m.met[name]++
		m.onLan(p)
	}
}

func (m *model) lan(b []byte) {
	f, err := ether.Read(b)
	if err != api.OK || f.Src[0]%2 == 1 || f.Dst != m.c.LanMAC && f.Dst[0]%2 == 0 {
		return
	}
	if a, err := ether.ReadARP(f.Body); f.Kind == 0x0806 && err == api.OK {
		answer, asked, held := m.cache.Hear(m.c, a, m.now)
		for _, p := range held {
			m.met["held, and given by ARP"]++
			m.onLan(p)
		}
		if asked {
			m.met["ARP on the LAN"]++
			m.frame(true, m.c.LanMAC, answer.To, 0x0806, arped(answer))
		}
	}
	p, err := inet.Read(f.Body)
	if f.Kind != 0x0800 || err != api.OK || !conf.Host(m.c, p.Src) {
		return
	}
	for _, q := range m.cache.Learn(p.Src, f.Src, m.now) {
		m.met["held, and given by a packet"]++
		m.onLan(q)
	}
	own := f.Dst == m.c.LanMAC
	switch top := p.Dst >> 28; {
	case p.Dst == m.c.LanAddr && own:
		m.ownPacket(p)
	case p.Dst == m.c.LanAddr:
	case p.Dst == 0xeffffffa:
		if d, err := trans.ReadUDP(p.Src, p.Dst, p.Body); p.Proto == api.UDP && err == api.OK && d.To == 1900 {
			m.search(p, d)
		}
	case inet.Within(p.Dst, m.c.LanAddr, m.c.LanBits), top == 14, top == 15, p.Dst == 0, !own:
		m.met["goes nowhere"]++
	case p.TTL < 2:
		q, ok := icmp.Exceeded(m.c.LanAddr, p)
		m.perhaps("exceeded", q, ok)
	default:
		m.goesOut(p)
	}
}

func (m *model) goesOut(p api.Packet) {
	p.TTL--
	q, err := m.nat.Out(p, m.now, m.draw())
	if err == api.ErrFull {
		u, ok := icmp.Unreachable(m.c.LanAddr, p, 1)
		m.perhaps("full", u, ok)
	}
	if err != api.OK {
		return
	}
	if p.Dst == m.c.WanAddr {
		m.in(q, "round")
		return
	}
	m.met[fmt.Sprint("out ", p.Proto)]++
	m.frame(false, m.c.WanMAC, m.c.HopMAC, 0x0800, carried(q))
}

func (m *model) ownPacket(p api.Packet) {
	if p.Proto == api.ICMP {
		q, ok := icmp.Answer(p)
		m.perhaps("echo", q, ok)
	}
	if d, err := trans.ReadUDP(p.Src, p.Dst, p.Body); p.Proto == api.UDP && err == api.OK {
		if d.To == 1900 {
			m.search(p, d)
			return
		}
		q, ok := icmp.Unreachable(m.c.LanAddr, p, 3)
		m.perhaps("no port", q, ok)
	}
	s, err := trans.ReadTCP(p.Src, p.Dst, p.Body)
	if p.Proto != api.TCP || err != api.OK {
		return
	}
	if s.To == 5000 {
		m.connSegment(p.Src, s)
		return
	}
	i := slices.IndexFunc(m.tells, func(x *modelTell) bool { return x.own == int(s.To) && x.host == p.Src && x.port == s.From })
	if i < 0 {
		m.refused(p.Src, s)
		return
	}
	x := m.tells[i]
	m.segments(x.host, x.side.Take(s, m.now))
	m.looked(x)
}

func (m *model) search(p api.Packet, d api.Datagram) {
	answers := ssdp.Search(m.c, d.Data)
	if len(answers) > 0 {
		m.met["search"]++
	}
	m.datagrams(p.Src, d.From, answers)
}

func (m *model) refused(host api.Addr, s api.Segment) {
	if s.Flags&4 != 0 {
		return
	}
	m.met["refused"]++
	back := api.Segment{From: s.To, To: s.From}
	if s.Flags&16 != 0 {
		back.Flags, back.Seq = 4, s.Ack
	} else {
		back.Flags, back.Ack = 4+16, s.Seq+uint32(len(s.Data))+uint32(s.Flags>>1&1)+uint32(s.Flags&1)
	}
	m.segments(host, []api.Segment{back})
}

func (m *model) connSegment(host api.Addr, s api.Segment) {
	var out []api.Segment
	i := slices.IndexFunc(m.conns, func(c *modelConn) bool { return c.host == host && c.port == s.From })
	switch {
	case i >= 0:
		out = m.conns[i].side.Take(s, m.now)
	case !track.Begins(s.Flags):
		m.refused(host, s)
		return
	case len(m.conns) >= m.c.MaxConns:
		m.met["too many connections"]++
		m.refused(host, s)
		return
	default:
		i = len(m.conns)
		c := &modelConn{host: host, port: s.From, parser: http.New()}
		c.side, out = stream.Accept(s, uint32(m.draw()), m.now)
		m.conns = append(m.conns, c)
	}
	c := m.conns[i]
	c.heard = m.now
	m.segments(host, out)
	m.served(c)
}

func (m *model) dropConn(c *modelConn) {
	m.conns = slices.DeleteFunc(m.conns, func(d *modelConn) bool { return d == c })
}

func (m *model) brokenConn(c *modelConn) {
	m.segments(c.host, []api.Segment{{From: 5000, To: c.port, Flags: 4 + 16}})
	m.dropConn(c)
}

func (m *model) served(c *modelConn) {
	parsed := c.parser.Feed(c.side.Read())
	for _, x := range parsed {
		one := m.draw()
		two := m.draw()
		b, keep := m.desk.Answer(x, c.host, m.now, [2]uint64{one, two})
		m.met["answer "+string(b[9:12])]++
		c.waits += string(b)
		if !keep {
			c.closing = true
			break
		}
	}
	if len(parsed) > 0 {
		m.rules()
	}
	if c.side.Ended() && c.parser.Idle() {
		c.closing = true
	}
	c.waits = c.waits[c.side.Send([]byte(c.waits)):]
	if len(c.waits) > 32768 {
		m.met["too much waits"]++
		m.brokenConn(c)
		return
	}
	if c.closing && c.waits == "" {
		c.side.Close()
	}
	m.segments(c.host, c.side.Flush(m.now))
	switch c.side.Phase() {
	case api.Over:
		m.met["a connection is over"]++
		m.dropConn(c)
	case api.Gone:
		m.met["a connection is gone"]++
		m.dropConn(c)
	}
}

func (m *model) failed(x *modelTell) {
	x.done = true
	m.desk.Subs.Done(x.sid, false, m.now)
	x.side.Close()
}

func (m *model) looked(x *modelTell) {
	b := string(x.side.Read())
	if !x.done {
		x.came += b
		status, more := http.Status([]byte(x.came))
		switch {
		case status != 0:
			m.met[fmt.Sprint("status ", status)]++
			x.done = true
			m.desk.Subs.Done(x.sid, status >= 200 && status < 300, m.now)
			x.side.Close()
		case !more, len(x.came) > 512:
			m.met["no status"]++
			m.failed(x)
		case x.side.Ended(), x.side.Phase() == api.Gone:
			m.met["no answer"]++
			m.failed(x)
		}
	}
	m.segments(x.host, x.side.Flush(m.now))
	if p := x.side.Phase(); p == api.Over || p == api.Gone {
		m.met["a telling is gone"]++
		m.tells = slices.DeleteFunc(m.tells, func(y *modelTell) bool { return y == x })
	}
}

func (m *model) look() string {
	return fmt.Sprint(m.now, m.c, all(m.desk.Maps.All()), all(m.nat.Sessions()), all(m.desk.Subs.All()), len(m.conns), m.desk.Maps.Update())
}

// P26.1: whatever happens, a gateway does as the chapter says, frame by frame.
func TestP26_1Model(t *testing.T) {
	met := map[string]int{}
	for seed := range int64(50) {
		w := newWorld(seed)
		m := newModel(w.c, met)
		for i := range 1500 {
			e := w.event()
			out := w.g.Step(e)
			if got, want := showAll(out), showAll(m.step(e)); got != want {
				t.Fatalf("seed %d, event %d, of kind %d: %s: %s\nnot: %s", seed, i, e.Kind, show(api.Out{Data: e.Data}), got, want)
			}
			if got, want := look(w.g), m.look(); got != want {
				t.Fatalf("seed %d, event %d, of kind %d: %s: %s\nnot: %s", seed, i, e.Kind, show(api.Out{Data: e.Data}), got, want)
			}
			w.react(out)
		}
	}
	for _, name := range []string{
		"a draw that follows", "asked for", "telling", "a still connection", "a telling too long", "alive", "a wrong configuration", "a configuration", "a telling ends by a configuration",
		"ARP on the WAN", "ARP on the LAN", "in 1", "in 6", "in 17", "out 1", "out 6", "out 17", "round 6", "round 17", "held, and given by ARP", "held, and given by a packet", "goes nowhere", "exceeded", "full",
		"echo", "no port", "search", "refused", "too many connections", "too much waits", "a connection is over", "a connection is gone", "status 200", "status 204", "status 500", "no status", "no answer", "a telling is gone",
		"answer 200", "answer 400", "answer 404", "answer 405", "answer 411", "answer 412", "answer 500", "answer 503",
	} {
		if met[name] < 10 {
			t.Errorf("%s: met %d times", name, met[name])
		}
	}
}

// P2: two runs of the same events give the same answers.
func TestP2Runs(t *testing.T) {
	for seed := range int64(5) {
		w := newWorld(seed)
		twin, err := gate.New(w.c)
		if err != api.OK {
			t.Fatal(err)
		}
		for i := range 1000 {
			e := w.event()
			out := w.g.Step(e)
			if got, want := showAll(twin.Step(e))+look(twin), showAll(out)+look(w.g); got != want {
				t.Fatalf("seed %d, event %d: %s\nnot: %s", seed, i, got, want)
			}
			w.react(out)
		}
	}
}
