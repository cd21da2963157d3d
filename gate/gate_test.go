package gate_test

import (
	"fmt"
	"math"
	"slices"
	"strings"
	"testing"

	"hearth/api"
	"hearth/ether"
	"hearth/gate"
	"hearth/inet"
	"hearth/neigh"
	"hearth/ssdp"
	"hearth/trans"
)

func TestP26_1New(t *testing.T) {
	wrong := map[string]func(c *api.Config){
		"bits":     func(c *api.Config) { c.LanBits = 31 },
		"lan":      func(c *api.Config) { c.LanAddr = 0xc0a80100 },
		"wan":      func(c *api.Config) { c.WanAddr = a7 },
		"mac":      func(c *api.Config) { c.HopMAC[0] = 1 },
		"sessions": func(c *api.Config) { c.MaxSessions = 0 },
		"maps":     func(c *api.Config) { c.MaxMaps = 257 },
		"conns":    func(c *api.Config) { c.MaxConns = 33 },
		"subs":     func(c *api.Config) { c.MaxSubs = -1 },
		"forward":  func(c *api.Config) { c.Forwards = []api.Forward{{Proto: api.TCP, Port: 80, To: 80, Host: lan}} },
		"dmz":      func(c *api.Config) { c.DMZ = far },
		"uuid":     func(c *api.Config) { c.UUID = "" },
		"all":      func(c *api.Config) { *c = api.Config{} },
	}
	for name, spoil := range wrong {
		c := config()
		spoil(&c)
		if g, err := gate.New(c); g != nil || err != api.ErrConf {
			t.Errorf("%s: %v, %v", name, g, err)
		}
	}
	c := config(api.Forward{Proto: api.UDP, Port: 9, To: 10, Host: a9})
	g := begins(t, c)
	if got := fmt.Sprint(g.Config()); got != fmt.Sprint(c) {
		t.Errorf("%s, not %v", got, c)
	}
	if g.Now() != 0 || len(all(g.Maps())) != 0 || len(all(g.Sessions())) != 0 || len(all(g.Subs())) != 0 || g.Conns() != 0 || g.Update() != 0 {
		t.Error(look(g))
	}
}

func TestP26_1NoKind(t *testing.T) {
	g := begins(t, config())
	was := look(g)
	for _, kind := range []int{0, -1, 6, math.MaxInt, math.MinInt} {
		e := fromLan(udp(a7, far, 5000, 53, "x"))
		e.Kind, e.N, e.Conf = kind, 5, config(api.Forward{Proto: api.UDP, Port: 9, To: 10, Host: a9})
		wants(t, "no kind", g.Step(e))
	}
	if look(g) != was {
		t.Errorf("%s, not %s", look(g), was)
	}
	wants(t, "the alive ones wait for a tick", g.Step(drawn(1)))
}

// external gives the port at which a host's datagram goes out.
func external(t *testing.T, g *gate.Gate, from uint16) uint16 {
	t.Helper()
	p := packetOf(t, "out", g.Step(fromLan(udp(a7, far, from, 53, "x"))))
	d, _ := trans.ReadUDP(p.Src, p.Dst, p.Body)
	return d.From
}

// externals wants a host's datagrams, each from another port, to go out at the ports of these draws.
func externals(t *testing.T, g *gate.Gate, from uint16, draws ...uint64) {
	t.Helper()
	for i, n := range draws {
		if got, want := external(t, g, from+uint16(i)), uint16(1024+n%64512); got != want {
			t.Errorf("draw %d, %d: port %d, not %d", i, n, got, want)
		}
	}
}

func followed(n uint64) uint64 { return 6364136223846793005*n + 1442695040888963407 }

func TestP26_1Draws(t *testing.T) {
	c := config()
	c.MaxSessions = 200
	g := begins(t, c)
	first := followed(0)
	externals(t, g, 100, first, followed(first))
	for i := range uint64(70) {
		wants(t, "draw", g.Step(drawn(1<<63+i*i*100)))
	}
	for i := range uint64(64) {
		externals(t, g, 200+uint16(i), 1<<63+i*i*100)
	}
	next := followed(1<<63 + 63*63*100)
	externals(t, g, 300, next, followed(next))
	g.Step(drawn(7))
	externals(t, g, 302, 7, followed(7))
}

// What takes a draw, and what doesn't.
func TestP26_1DrawsUsed(t *testing.T) {
	g := begins(t, config())
	for i := range uint64(10) {
		g.Step(drawn(1<<32 + i))
	}
	externals(t, g, 1, 1<<32)
	external(t, g, 1)                                                                       // 1: of a session that is there
	g.Step(fromLan(tcp(a7, far, api.Segment{From: 9, To: 80, Flags: api.ACK})))             // 2: of none
	g.Step(fromLan(with(1, udp(a7, far, 2, 53, "x"))))                                      // none: it has gone too far
	g.Step(fromLan(udp(a7, a8, 2, 53, "x")))                                                // none: it isn't for the gateway
	g.Step(fromLan(udp(a7, lan, 2, 53, "x")))                                               // none
	g.Step(fromWan(udp(far, wan, 53, 1025, "x")))                                           // none
	says(g, a7, api.Segment{From: 9, To: 5000, Flags: api.ACK})                             // none: it is refused
	says(g, a7, api.Segment{From: 9, To: 5001, Flags: api.SYN})                             // none
	out := says(g, a7, api.Segment{From: 9, To: 5000, Seq: 50, Flags: api.SYN, Window: 99}) // 3
	if s := segments(out, 5000, a7, 9); len(s) != 1 || s[0].Seq != 3 {
		t.Error(showAll(out))
	}
	text := gets("/x") + subscribes(a7, 80) // 4 and 5, 6 and 7, 8: the telling
	out = says(g, a7, api.Segment{From: 9, To: 5000, Seq: 51, Ack: 4, Flags: api.ACK, Data: []byte(text), Window: 4096})
	if got := all(g.Subs()); !slices.Equal(got, []string{"uuid:00000001-0000-0006-0000-000100000007"}) {
		t.Error(got)
	}
	if s := segments(out, 40000, a7, 80); len(s) != 1 || s[0].Seq != 8 {
		t.Error(showAll(out))
	}
	externals(t, g, 5, 1<<32+9, followed(1<<32+9))
}

func TestP26_1Tick(t *testing.T) {
	g := begins(t, config())
	for _, x := range []struct{ n, now uint64 }{
		{0, 0}, {1, 1}, {99, 100}, {1 << 32, 1<<32 + 100}, {1<<32 + 1, 1<<33 + 100}, {math.MaxUint64, 3<<32 + 100}, {1, 3<<32 + 101},
	} {
		g.Step(tick(x.n))
		if g.Now() != x.now {
			t.Errorf("%d more: %d, not %d", x.n, g.Now(), x.now)
		}
	}
}

// alives gives the frames by which the device is told of, whose IDs begin with one.
func alives(c api.Config, id uint16) []api.Out {
	var out []api.Out
	for i, text := range ssdp.Alive(c) {
		p := own(id+uint16(i), udp(c.LanAddr, seek, 1900, 1900, string(text)))
		out = append(out, api.Out{Lan: true, Data: bytesOf(packetFrame(api.MAC{1, 0, 94, 0x7f, 0xff, 0xfa}, c.LanMAC, p))})
	}
	return out
}

func TestP26_1Alive(t *testing.T) {
	g := begins(t, config())
	wants(t, "at first", g.Step(tick(0)), alives(config(), 0)...)
	wants(t, "at once", g.Step(tick(0)))
	wants(t, "ahead of 900", g.Step(tick(899)))
	wants(t, "at 900", g.Step(tick(1)), alives(config(), 6)...)
	wants(t, "late", g.Step(tick(1000)), alives(config(), 12)...)
	wants(t, "from then on", g.Step(tick(899)))
	c := config()
	c.UUID = "ffffffff-1111-2222-3333-444444444444"
	wants(t, "a configuration", g.Step(becomes(c)))
	wants(t, "of the configuration", g.Step(tick(1)), alives(c, 18)...)
}

// The IDs of what the gateway itself sends go round; what it lets pass, or answers by ICMP, has none of them.
func TestP26_1IDs(t *testing.T) {
	g := begins(t, config())
	g.Step(hello(a7))
	g.Step(fromLan(ping(a7, lan, 1)))
	g.Step(fromLan(udp(a7, lan, 9, 9, "x")))
	g.Step(fromLan(udp(a7, far, 9, 9, "x")))
	refused := api.Segment{From: 9, To: 9, Flags: api.SYN}
	for i := range 1<<16 + 3 {
		p := packetOf(t, "refused", says(g, a7, refused))
		if p.ID != uint16(i) || p.TTL != 64 || p.Src != lan {
			t.Fatalf("%d: %v", i, p)
		}
	}
	search := "M-SEARCH * HTTP/1.1\r\nMAN: \"ssdp:discover\"\r\nMX: 1\r\nST: upnp:rootdevice\r\n\r\n"
	if p := packetOf(t, "search", g.Step(fromLan(udp(a7, lan, 9, 1900, search)))); p.ID != 3 {
		t.Error(p)
	}
}

// Behind a tick what has ended is gone, and mappings let nothing in that have ended.
func TestP26_1Expire(t *testing.T) {
	g := begins(t, config())
	if got, _ := asked(g, a7, 6000, adds(a7, "UDP", 8080, 80, 100)); !strings.HasPrefix(got, "HTTP/1.1 200") {
		t.Fatal(got)
	}
	asked(g, a7, 6001, subscribes(a8, 80))
	g.Step(tick(0))
	g.Step(fromLan(udp(a7, far, 5000, 53, "x")))
	g.Step(tick(99))
	if len(all(g.Maps())) != 1 || g.Update() != 1 {
		t.Error(look(g))
	}
	wants(t, "99", g.Step(fromWan(udp(far, wan, 1, 8080, "x"))), onLan(less(udp(far, a7, 1, 80, "x"))))
	g.Step(tick(1))
	if len(all(g.Maps())) != 0 || g.Update() != 2 || len(all(g.Sessions())) != 1 {
		t.Error(look(g))
	}
	wants(t, "100", g.Step(fromWan(udp(far, wan, 1, 8080, "x"))))
	g.Step(tick(199))
	if len(all(g.Sessions())) != 1 {
		t.Error(look(g))
	}
	g.Step(tick(1))
	if len(all(g.Sessions())) != 0 {
		t.Error(look(g))
	}
}

// A session that goes by a mapping is gone with that, at the tick at which it ends.
func TestP26_1ExpireRules(t *testing.T) {
	g := begins(t, config())
	asked(g, a7, 6000, adds(a7, "UDP", 8080, 80, 100))
	g.Step(fromLan(udp(a7, far, 80, 53, "x")))
	if s := all(g.Sessions()); len(s) != 1 || s[0].Ext != 8080 {
		t.Fatal(s)
	}
	g.Step(tick(99))
	if len(all(g.Sessions())) != 1 {
		t.Error(look(g))
	}
	g.Step(tick(1))
	if len(all(g.Sessions())) != 0 {
		t.Error(look(g))
	}
}

// Who is known is forgotten behind 300 seconds; what is held is gone behind 3.
func TestP26_1ExpireCache(t *testing.T) {
	g := begins(t, config(api.Forward{Proto: api.UDP, Port: 80, To: 80, Host: a9}))
	in := udp(far, wan, 1, 80, "x")
	goes := onLan(less(udp(far, a9, 1, 80, "x")))
	wants(t, "unknown", g.Step(fromWan(in)), asks(a9))
	wants(t, "asked already", g.Step(fromWan(in)))
	g.Step(tick(2))
	wants(t, "asked anew", g.Step(fromWan(in)), asks(a9))
	g.Step(tick(1))
	wants(t, "the later one is given", g.Step(hello(a9)), goes)
	g.Step(tick(299))
	wants(t, "known", g.Step(fromWan(in)), goes)
	g.Step(tick(1))
	wants(t, "forgotten", g.Step(fromWan(in)), asks(a9))
}

func TestP26_1ConfRefused(t *testing.T) {
	g := begins(t, config())
	g.Step(fromLan(udp(a7, far, 5000, 53, "x")))
	dials(g, a7, 6000)
	was := look(g)
	c := config()
	c.LanBits, c.WanAddr = 31, near
	wants(t, "refused", g.Step(becomes(c)))
	if look(g) != was {
		t.Errorf("%s, not %s", look(g), was)
	}
}

// Another configuration leaves mappings, subscriptions, the second, draws and IDs, and nothing else.
func TestP26_1Conf(t *testing.T) {
	g := begins(t, config())
	g.Step(tick(5))
	asked(g, a7, 6000, adds(a7, "UDP", 8080, 80, 100))
	g.Step(fromLan(udp(a7, far, 5000, 53, "x")))
	g.Step(fromLan(udp(a7, far, 80, 53, "x")))
	c := dials(g, a7, 6001)
	g.Step(drawn(77))
	g.Step(fromWan(udp(far, wan, 1, 8080, "x")))
	id := packetOf(t, "refused", says(g, a7, api.Segment{From: 9, To: 9, Flags: api.SYN})).ID

	other := config(api.Forward{Proto: api.TCP, Port: 25, To: 26, Host: a9})
	other.WanAddr = near
	wants(t, "conf", g.Step(becomes(other)))
	if g.Now() != 5 || len(all(g.Maps())) != 1 || len(all(g.Sessions())) != 0 || g.Conns() != 0 || g.Update() != 1 {
		t.Error(look(g))
	}
	if got := fmt.Sprint(g.Config()); got != fmt.Sprint(other) {
		t.Errorf("%s, not %v", got, other)
	}
	wants(t, "the mapping holds", g.Step(fromWan(udp(far, near, 1, 8080, "x"))), asks(a7))
	wants(t, "the elder address", g.Step(fromWan(udp(far, wan, 1, 8080, "x"))))
	wants(t, "what was held", g.Step(hello(a7)), onLan(less(udp(far, a7, 1, 80, "x"))))
	wants(t, "a forward", g.Step(fromWan(tcp(far, near, api.Segment{From: 1, To: 25, Flags: api.SYN}))), asks(a9))
	externals(t, g, 5000, 77)

	c.Send([]byte(gets("/desc.xml")))
	s := c.Flush(5)[0]
	wants(t, "no connection", says(g, a7, s), onLan(own(id+1, tcp(lan, a7, api.Segment{From: 5000, To: 6001, Seq: s.Ack, Flags: api.RST}))))
}

// A connection of before is there no more even if as many are at once as may be.
func TestP26_1ConfConns(t *testing.T) {
	g := begins(t, config())
	for i := range 3 {
		dials(g, a7, 6000+uint16(i))
	}
	if g.Conns() != 3 {
		t.Error(g.Conns())
	}
	c := config()
	c.MaxConns = 1
	g.Step(becomes(c))
	dials(g, a7, 6000)
	dials(g, a7, 6001)
	if g.Conns() != 1 {
		t.Error(g.Conns())
	}
}

// The LAN may be another one: mappings of hosts that are no more there are gone, and so are their rules.
func TestP26_1ConfElsewhere(t *testing.T) {
	g := begins(t, config())
	asked(g, a7, 6000, adds(a7, "UDP", 8080, 80, 100))
	c := config()
	c.LanAddr, c.LanBits = 0x0a000001, 8
	g.Step(becomes(c))
	if len(all(g.Maps())) != 0 || g.Update() != 2 {
		t.Error(look(g))
	}
	wants(t, "no mapping", g.Step(fromWan(udp(far, wan, 1, 8080, "x"))))
	wants(t, "no host", g.Step(fromLan(udp(a7, far, 5000, 53, "x"))))
	if p := packetOf(t, "host", g.Step(fromLan(udp(0x0a000007, far, 5000, 53, "x")))); p.Src != wan {
		t.Error(p)
	}
}

// Each of what is gone through ends when it is told so, and is in order.
func TestP26_1All(t *testing.T) {
	g := begins(t, config())
	c := dials(g, a7, 6000)
	for i, ext := range []int{82, 80, 81} {
		c.say(adds(a7, "TCP", ext, 8080, 100+i))
	}
	c.say(subscribes(a7, 80) + subscribes(a7, 81))
	for from := range uint16(3) {
		g.Step(fromLan(udp(a7, far, 103-from, 53, "x")))
	}
	var exts, froms []uint16
	for _, e := range all(g.Maps()) {
		exts = append(exts, e.Ext)
	}
	for _, s := range all(g.Sessions()) {
		froms = append(froms, s.Flow.From)
	}
	subs := all(g.Subs())
	if !slices.Equal(exts, []uint16{80, 81, 82}) || !slices.Equal(froms, []uint16{101, 102, 103}) || len(subs) != 2 || subs[0] == subs[1] {
		t.Error(exts, froms, subs)
	}
	n := 0
	for range g.Maps() {
		n++
		break
	}
	for range g.Sessions() {
		n += 10
		break
	}
	for range g.Subs() {
		n += 100
		break
	}
	if n != 111 {
		t.Error(n)
	}
}

// What was given ahead of another configuration goes through what is there by then.
func TestP26_1AllLater(t *testing.T) {
	g := begins(t, config())
	maps, sessions, subs := g.Maps(), g.Sessions(), g.Subs()
	asked(g, a7, 6000, adds(a7, "UDP", 8080, 80, 100)+subscribes(a7, 80))
	c := config()
	c.WanAddr = near
	g.Step(becomes(c))
	g.Step(fromLan(udp(a7, far, 5000, 53, "x")))
	// The subscription is gone: its telling has failed.
	if len(all(maps)) != 1 || len(all(sessions)) != 1 || len(all(subs)) != 0 {
		t.Error(all(maps), all(sessions), all(subs))
	}
}

// scribble writes over a list, and all of its spare room.
func scribble(b []byte) {
	b = b[:cap(b)]
	for i := range b {
		b[i] ^= 0xff
	}
}

func TestP26_7HandedIn(t *testing.T) {
	g, twin := begins(t, config()), begins(t, config())
	events := []api.Event{
		hello(a7), drawn(9), fromLan(udp(a7, far, 5000, 53, "hello")), fromWan(udp(far, wan, 53, 1033, "hello")), tick(1),
		becomes(config(api.Forward{Proto: api.UDP, Port: 80, To: 80, Host: a8}, api.Forward{Proto: api.UDP, Port: 81, To: 81, Host: a9})),
		fromWan(udp(far, wan, 1, 81, "held")), hello(a9), fromWan(udp(far, wan, 1, 80, "held")), fromLan(udp(a8, far, 1, 1, "x")), tick(1),
		fromLan(tcp(a7, lan, api.Segment{From: 9, To: 5000, Seq: 50, Flags: api.SYN, Window: 4096})),
		fromLan(tcp(a7, lan, api.Segment{From: 9, To: 5000, Seq: 51, Ack: 1, Flags: api.ACK, Window: 4096, Data: []byte(gets("/desc.xml"))})), tick(3),
	}
	for i, e := range events {
		spare := append(slices.Clone(e.Data), "SPARE"...)
		handed := e
		handed.Data = spare[:len(e.Data)]
		handed.Conf.Forwards = append(slices.Clone(e.Conf.Forwards), api.Forward{Port: 1})[:len(e.Conf.Forwards)]
		was := fmt.Sprint(spare, handed.Conf, handed.Conf.Forwards[:cap(handed.Conf.Forwards)])
		out := g.Step(handed)
		if got := fmt.Sprint(spare, handed.Conf, handed.Conf.Forwards[:cap(handed.Conf.Forwards)]); got != was {
			t.Fatalf("event %d: %s, not %s", i, got, was)
		}
		wants(t, fmt.Sprint("event ", i), out, twin.Step(e)...)
		scribble(spare)
		clear(handed.Conf.Forwards[:cap(handed.Conf.Forwards)])
		for j := range out {
			for _, later := range out[j+1:] {
				was := string(later.Data)
				scribble(out[j].Data)
				if string(later.Data) != was {
					t.Fatalf("event %d: two frames share memory", i)
				}
			}
			scribble(out[j].Data)
		}
		clear(out[:cap(out)])
	}
	if look(g) != look(twin) {
		t.Errorf("%s, not %s", look(g), look(twin))
	}
}

func TestP26_7Configurations(t *testing.T) {
	c := config(api.Forward{Proto: api.UDP, Port: 80, To: 80, Host: a8})
	g := begins(t, c)
	c.Forwards[0].Port = 81
	got := g.Config()
	if got.Forwards[0].Port != 80 {
		t.Error(got)
	}
	got.Forwards[0].Port = 82
	got.Forwards = append(got.Forwards, api.Forward{})
	if f := g.Config().Forwards; len(f) != 1 || f[0].Port != 80 {
		t.Error(f)
	}
	wants(t, "forward", g.Step(fromWan(udp(far, wan, 1, 80, "x"))), asks(a8))
}

// Two gateways are each by itself.
func TestP26_7Apart(t *testing.T) {
	one, two := begins(t, config()), begins(t, config())
	was := look(two)
	asked(one, a7, 6000, adds(a7, "UDP", 8080, 80, 100)+subscribes(a7, 80))
	one.Step(tick(7))
	one.Step(drawn(7))
	one.Step(fromLan(udp(a7, far, 5000, 53, "x")))
	if look(two) != was {
		t.Errorf("%s, not %s", look(two), was)
	}
	externals(t, two, 5000, followed(0))
}

// The example of the chapter.
func TestP26Example(t *testing.T) {
	g := begins(t, config())
	q := ping(a7, lan, 7)
	want := message(lan, a7, api.Message{Type: 0, Rest: 7<<16 | 1, Data: []byte("ping")})
	wants(t, "echo", g.Step(fromLan(q)), onLan(want))
}

// What is asked for by ARP is told whole.
func TestP26_1Asks(t *testing.T) {
	g := begins(t, config(api.Forward{Proto: api.UDP, Port: 80, To: 80, Host: a9}))
	out := g.Step(fromWan(udp(far, wan, 1, 80, "x")))
	if len(out) != 1 || !out[0].Lan {
		t.Fatal(showAll(out))
	}
	f, _ := ether.Read(out[0].Data)
	a, err := ether.ReadARP(f.Body)
	if f.Dst != ether.All() || f.Src != config().LanMAC || f.Kind != 0x0806 || err != api.OK || a != neigh.Ask(config(), a9) {
		t.Error(show(out[0]))
	}
	if inet.Text(a.Dst) != "192.168.1.9" || a.Op != 1 {
		t.Error(a)
	}
}
