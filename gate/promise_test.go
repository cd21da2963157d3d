package gate_test

import (
	"fmt"
	"testing"

	"hearth/api"
	"hearth/conf"
	"hearth/ether"
	"hearth/flow"
	"hearth/inet"
	"hearth/trans"
)

// watch is a world, with what was seen of its gateway ahead of an event.
type watch struct {
	*world
	t        *testing.T
	name     string
	met      map[string]int
	came     map[string]int // how many packets came that may go on to the LAN, by what must not change of them
	maps     map[api.Mapping]api.Entry
	sessions []api.Session
	subs     string
	update   uint32
}

func newWatch(t *testing.T, seed int64, met map[string]int) *watch {
	w := &watch{world: newWorld(seed), t: t, met: met, came: map[string]int{}}
	w.see()
	return w
}

// see keeps what the gateway tells of itself.
func (w *watch) see() {
	w.maps = map[api.Mapping]api.Entry{}
	for e := range w.g.Maps() {
		w.maps[keyOf(e)] = e
	}
	w.sessions, w.subs, w.update = all(w.g.Sessions()), fmt.Sprint(all(w.g.Subs())), w.g.Update()
}

// keyOf gives a mapping's key alone.
func keyOf(e api.Entry) api.Mapping {
	return api.Mapping{Proto: e.Proto, Ext: e.Ext, Remote: e.Remote}
}

// packetIn gives the packet of a frame, if it has one.
func packetIn(b []byte) (api.Packet, bool) {
	f, err := ether.Read(b)
	if err != api.OK || f.Kind != api.KindIP {
		return api.Packet{}, false
	}
	p, err := inet.Read(f.Body)
	return p, err == api.OK
}

// kept gives what must not change of a packet on its way: all but the ends, the TTL, and, of an error, what it tells of.
func kept(p api.Packet) string {
	switch s, err := trans.ReadTCP(p.Src, p.Dst, p.Body); {
	case p.Proto == api.TCP && err == api.OK:
		return fmt.Sprint(p.ID, " TCP ", s.Seq, s.Ack, s.Flags, s.Window, s.Urgent, s.Opts, s.Data)
	case p.Proto == api.TCP:
		return "wrong"
	}
	switch d, err := trans.ReadUDP(p.Src, p.Dst, p.Body); {
	case p.Proto == api.UDP && err == api.OK:
		return fmt.Sprint(p.ID, " UDP ", d.Plain, d.Data)
	case p.Proto == api.UDP:
		return "wrong"
	}
	m, err := trans.ReadICMP(p.Body)
	switch {
	case err != api.OK:
		return "wrong"
	case m.Type == 0 || m.Type == 8:
		return fmt.Sprint(p.ID, " ICMP ", m.Type, m.Code, m.Rest&0xffff, m.Data)
	}
	return fmt.Sprint(p.ID, " ICMP ", m.Type, m.Code, m.Rest, len(m.Data))
}

// step lets something happen, and holds it against the promises.
func (w *watch) step(i int) {
	e := w.event()
	w.name = fmt.Sprintf("event %d, of kind %d: %s", i, e.Kind, show(api.Out{Data: e.Data}))
	in, carries := packetIn(e.Data)
	switch {
	case carries && e.Kind == api.EvWan:
		w.came[fmt.Sprint(in.Src, in.TTL, kept(in))]++
	case carries && e.Kind == api.EvLan:
		// One to the WAN's address comes in as from there.
		w.came[fmt.Sprint(w.c.WanAddr, in.TTL, kept(in))]++
	}
	out := w.g.Step(e)
	for _, o := range out {
		if o.Lan {
			w.holdLan(o)
		} else {
			w.holdWan(e, o, in)
		}
	}
	if e.Kind == api.EvWan {
		w.holdNothing(out, in)
	}
	w.holdMaps(e, in)
	w.holdCounts()
	w.see()
	w.react(out)
}

func (w *watch) fail(parts ...any) {
	w.t.Helper()
	w.t.Fatalf("%s: %s", w.name, fmt.Sprintln(parts...))
}

// holdWan holds a frame on the WAN against P26.3: it is a packet that came on the LAN in this event, or an answer to ARP.
func (w *watch) holdWan(e api.Event, o api.Out, in api.Packet) {
	p, ok := packetIn(o.Data)
	if !ok {
		f, _ := ether.Read(o.Data)
		a, err := ether.ReadARP(f.Body)
		if e.Kind != api.EvWan || err != api.OK || a.Op != 2 || a.Src != w.c.WanAddr {
			w.fail("on the WAN", show(o))
		}
		w.met["ARP"]++
		return
	}
	if e.Kind != api.EvLan || p.Src != w.c.WanAddr || p.Dst != in.Dst || p.TTL != in.TTL-1 || kept(p) != kept(in) || kept(p) == "wrong" {
		w.fail("on the WAN", show(o))
	}
	told, kind, err := flow.Of(p)
	was, _, _ := flow.Of(in)
	if err != api.OK {
		w.fail("on the WAN", show(o))
	}
	w.met[fmt.Sprint("out ", kind)]++
	for _, s := range w.g.Config().Forwards {
		if s.Port == told.From && s.Proto == told.Proto && (s.Host != was.Src || s.To != was.From) {
			w.fail("a forward's port", show(o))
		}
	}
	own := false
	for s := range w.g.Sessions() {
		if s.Flow.Proto != told.Proto || s.Ext != told.From {
			continue
		}
		own = own || s.Flow == was
		if s.Flow.Src != was.Src || s.Flow.From != was.From {
			w.fail("another one's port", show(o), s)
		}
	}
	if !own {
		w.fail("no port of its own", show(o))
	}
}

// holdLan holds a frame on the LAN against P26.3: it is from the gateway itself, or a packet that came, and comes but once.
func (w *watch) holdLan(o api.Out) {
	p, ok := packetIn(o.Data)
	if !ok || p.Src == w.c.LanAddr {
		return
	}
	sign := fmt.Sprint(p.Src, p.TTL+1, kept(p))
	if kept(p) == "wrong" || w.came[sign] == 0 || !conf.Host(w.c, p.Dst) {
		w.fail("on the LAN", show(o))
	}
	w.came[sign]--
	w.met["in"]++
}

// holdNothing holds a frame of the WAN against P26.4.
func (w *watch) holdNothing(out []api.Out, in api.Packet) {
	now := &watch{world: w.world}
	now.see()
	if fmt.Sprint(now.maps) != fmt.Sprint(w.maps) || now.subs != w.subs || now.update != w.update {
		w.fail("changed by the WAN")
	}
	for _, o := range out {
		p, ok := packetIn(o.Data)
		if !ok || !o.Lan {
			continue
		}
		if f, kind, err := flow.Of(p); err != api.OK || !w.lets(f, kind, in) {
			w.fail("let in", show(o), w.sessions)
		}
	}
}

// lets tells whether a mapping, a forward, the DMZ, or a session lets a packet in that goes to a host in a flow.
func (w *watch) lets(f api.Flow, kind int, in api.Packet) bool {
	told, _, _ := flow.Of(in)
	for _, s := range w.sessions {
		if s.Lan && s.Flow == flow.Turn(f) && s.Ext == told.To {
			w.met["by a session"]++
			return true
		}
	}
	if kind != api.CarriesData {
		return false
	}
	for _, e := range w.maps {
		if e.Enabled && e.Proto == f.Proto && e.Ext == told.To && e.Host == f.Dst && e.To == f.To && (e.Remote == 0 || e.Remote == f.Src) {
			w.met["by a mapping"]++
			return true
		}
	}
	if d, ok := conf.Find(w.c, f.Proto, told.To); ok && d.Host == f.Dst && d.To == f.To {
		w.met["by a forward"]++
		return true
	}
	w.met["by the DMZ"]++
	return w.c.DMZ != 0 && f.Dst == w.c.DMZ && f.To == told.To
}

// holdMaps holds the mappings against P26.5.
func (w *watch) holdMaps(e api.Event, in api.Packet) {
	now, there := w.g.Now(), map[api.Mapping]bool{}
	for m := range w.g.Maps() {
		there[keyOf(m)] = true
		was, known := w.maps[keyOf(m)]
		if known && was == m {
			continue
		}
		w.met["a mapping comes"]++
		if e.Kind != api.EvLan || in.Src != m.Host || in.Dst != w.c.LanAddr || known && was.Host != m.Host || m.Ends <= now || m.Ends > now+604800 {
			w.fail("a mapping", m)
		}
	}
	for k, was := range w.maps {
		if there[k] {
			continue
		}
		switch {
		case e.Kind == api.EvLan && in.Src == was.Host && in.Dst == w.c.LanAddr:
			w.met["a mapping is taken away"]++
		case e.Kind == api.EvTick && was.Ends <= now:
			w.met["a mapping ends"]++
		case e.Kind == api.EvConf:
			w.met["a mapping is gone by a configuration"]++
		default:
			w.fail("a mapping is gone", was)
		}
	}
	for m := range w.g.Maps() {
		if m.Ends <= now {
			w.fail("a mapping is there still", m)
		}
	}
}

// holdCounts holds how many there are against P26.5.
func (w *watch) holdCounts() {
	c := w.g.Config()
	if len(all(w.g.Maps())) > c.MaxMaps || len(all(w.g.Sessions())) > c.MaxSessions || w.g.Conns() > c.MaxConns || len(all(w.g.Subs())) > c.MaxSubs {
		w.fail(look(w.g))
	}
	if w.g.Conns() == c.MaxConns {
		w.met["all connections"]++
	}
	if len(all(w.g.Subs())) == c.MaxSubs {
		w.met["all subscriptions"]++
	}
}

// P26.3, P26.4, P26.5: whatever happens, they hold.
func TestP26_3To26_5(t *testing.T) {
	met := map[string]int{}
	for seed := range int64(60) {
		w := newWatch(t, 1000+seed, met)
		for i := range 1200 {
			w.step(i)
		}
	}
	for _, name := range []string{
		"ARP", "out 1", "out 2", "out 3", "in", "by a session", "by a mapping", "by a forward", "by the DMZ",
		"a mapping comes", "a mapping is taken away", "a mapping ends", "a mapping is gone by a configuration", "all connections", "all subscriptions",
	} {
		if met[name] < 10 {
			t.Errorf("%s: met %d times", name, met[name])
		}
	}
}
