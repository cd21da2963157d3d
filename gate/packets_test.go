package gate_test

import (
	"bytes"
	"fmt"
	"math/rand"
	"slices"
	"testing"

	"hearth/api"
	"hearth/ether"
	"hearth/gate"
	"hearth/icmp"
	"hearth/inet"
	"hearth/ssdp"
	"hearth/trans"
)

// spoil gives an event whose frame has another byte at a place.
func spoil(e api.Event, at int) api.Event {
	e.Data = slices.Clone(e.Data)
	e.Data[at] ^= 0x40
	return e
}

// home gives a gateway to which .7, .8 and .9 are known, with a forward of UDP 25 to .9's 26.
func home(t *testing.T) *gate.Gate {
	t.Helper()
	g := begins(t, config(api.Forward{Proto: api.UDP, Port: 25, To: 26, Host: a9}))
	for _, a := range []api.Addr{a7, a8, a9} {
		wants(t, "hello", g.Step(hello(a)))
	}
	return g
}

func TestP26_3Out(t *testing.T) {
	for _, ttl := range []byte{2, 3, 64, 255} {
		g := home(t)
		g.Step(drawn(5))
		g.Step(drawn(6))
		g.Step(drawn(7))
		wants(t, "datagram", g.Step(fromLan(with(ttl, udp(a7, far, 5000, 53, "hello")))), onWan(with(ttl-1, udp(wan, far, 1029, 53, "hello"))))
		s := api.Segment{From: 9, To: 80, Seq: 5, Flags: api.SYN, Window: 8, Opts: []byte{2, 4, 5, 0xb4}, Urgent: 3}
		q := s
		q.From = 1030
		wants(t, "segment", g.Step(fromLan(with(ttl, tcp(a7, far, s)))), onWan(with(ttl-1, tcp(wan, far, q))))
		wants(t, "question", g.Step(fromLan(with(ttl, ping(a8, far, 9)))), onWan(with(ttl-1, ping(wan, far, 1031))))
	}
}

func TestP26_3OutError(t *testing.T) {
	g := home(t)
	g.Step(drawn(5))
	g.Step(fromLan(udp(a7, far, 5000, 53, "hello")))
	told := carried(udp(far, a7, 53, 5000, "answer"))
	tells := message(a7, near, api.Message{Type: 3, Code: 3, Data: told})
	p := packetOf(t, "error", g.Step(fromLan(tells)))
	m, err := trans.ReadICMP(p.Body)
	if p.Src != wan || p.Dst != near || p.TTL != 63 || err != api.OK || m.Type != 3 || m.Code != 3 {
		t.Errorf("%v, %v", p, m)
	}
	want := udp(far, wan, 53, 1029, "answer")
	if !bytes.Equal(m.Data[12:24], carried(want)[12:24]) {
		t.Errorf("%x, not %x", m.Data, carried(want))
	}
	wants(t, "error of no session", g.Step(fromLan(message(a8, near, api.Message{Type: 3, Code: 3, Data: told}))))
}

// What doesn't go out, and isn't answered either.
func TestP26_3NotOut(t *testing.T) {
	out := udp(a7, far, 5000, 53, "hello")
	c := config()
	frame := func(change func(f *api.Frame)) api.Event {
		f := packetFrame(c.LanMAC, mac(a7), out)
		change(&f)
		return came(api.EvLan, bytesOf(f))
	}
	long := came(api.EvLan, append(fromLan(out).Data, make([]byte, 1514)...))
	odd := out
	odd.Proto = 99
	for name, e := range map[string]api.Event{
		"no frame":              came(api.EvLan, nil),
		"short":                 came(api.EvLan, fromLan(out).Data[:13]),
		"short packet":          came(api.EvLan, fromLan(out).Data[:33]),
		"long":                  long,
		"kind":                  frame(func(f *api.Frame) { f.Kind = 0x86dd }),
		"from a group":          frame(func(f *api.Frame) { f.Src[0] |= 1 }),
		"to another one":        frame(func(f *api.Frame) { f.Dst[5] = 9 }),
		"to all":                frame(func(f *api.Frame) { f.Dst = ether.All() }),
		"to a group":            frame(func(f *api.Frame) { f.Dst[0] |= 1 }),
		"check sum":             spoil(fromLan(out), 14+10),
		"check sum of the data": spoil(fromLan(out), len(fromLan(out).Data)-1),
		"from the gateway":      fromLan(udp(lan, far, 5000, 53, "hello")),
		"from the net":          fromLan(udp(0xc0a80100, far, 5000, 53, "hello")),
		"from all of the net":   fromLan(udp(0xc0a801ff, far, 5000, 53, "hello")),
		"from elsewhere":        fromLan(udp(near, far, 5000, 53, "hello")),
		"from nowhere":          fromLan(udp(0, far, 5000, 53, "hello")),
		"to a host":             fromLan(udp(a7, a8, 5000, 53, "hello")),
		"to itself":             fromLan(udp(a7, a7, 5000, 53, "hello")),
		"to the net":            fromLan(udp(a7, 0xc0a80100, 5000, 53, "hello")),
		"to all of the net":     fromLan(udp(a7, 0xc0a801ff, 5000, 53, "hello")),
		"to many":               fromLan(udp(a7, 0xe0000001, 5000, 53, "hello")),
		"to many more":          fromLan(udp(a7, 0xefffffff, 5000, 53, "hello")),
		"to what isn't used":    fromLan(udp(a7, 0xf0000001, 5000, 53, "hello")),
		"to all there are":      fromLan(udp(a7, 0xffffffff, 5000, 53, "hello")),
		"to nowhere":            fromLan(udp(a7, 0, 5000, 53, "hello")),
		"to nowhere, and far":   fromLan(with(1, udp(a7, 0, 5000, 53, "hello"))),
		"to a host, and far":    fromLan(with(1, udp(a7, a8, 5000, 53, "hello"))),
		"to all, and far":       toAll(ether.All(), with(1, out)),
		"protocol":              fromLan(odd),
		"an answer":             fromLan(message(a7, far, api.Message{Type: 0})),
		"no beginning":          fromLan(tcp(a7, far, api.Segment{From: 9, To: 80, Flags: api.ACK})),
	} {
		g := home(t)
		wants(t, name, g.Step(e))
		if len(all(g.Sessions())) != 0 {
			t.Errorf("%s: %v", name, all(g.Sessions()))
		}
	}
	g := home(t)
	for _, a := range []api.Addr{1, 0x0fffffff, 0xdfffffff, 0xc0a80001, 0xc0a80207, 0x7f000001} {
		if p := packetOf(t, "outside", g.Step(fromLan(udp(a7, a, 5000, 53, "hello")))); p.Dst != a || p.Src != wan {
			t.Error(p)
		}
	}
}

func TestP26_3Exceeded(t *testing.T) {
	for _, ttl := range []byte{0, 1} {
		g := home(t)
		for name, p := range map[string]api.Packet{
			"datagram": udp(a7, far, 5000, 53, "hello"), "question": ping(a7, far, 5), "segment": tcp(a7, far, api.Segment{From: 9, To: 80, Flags: api.ACK}),
			"to the WAN's address": udp(a7, wan, 5000, 53, "hello"), "no datagram": {TTL: 64, Proto: api.UDP, Src: a7, Dst: far, Body: []byte{1}},
		} {
			p.TTL = ttl
			want, ok := icmp.Exceeded(lan, p)
			if !ok || want.Dst != a7 || want.Src != lan {
				t.Fatal(want)
			}
			wants(t, name, g.Step(fromLan(p)), onLan(want))
		}
		error := with(ttl, message(a7, far, api.Message{Type: 11, Data: carried(udp(far, a7, 1, 2, "x"))}))
		wants(t, "error", g.Step(fromLan(error)))
		if len(all(g.Sessions())) != 0 {
			t.Error(all(g.Sessions()))
		}
	}
}

func TestP26_3OutFull(t *testing.T) {
	g := home(t)
	for i := range uint16(8) {
		g.Step(fromLan(udp(a7, far, 100+i, 53, "x")))
	}
	p := udp(a8, far, 5000, 53, "hello")
	want, _ := icmp.Unreachable(lan, less(p), 1)
	wants(t, "full", g.Step(fromLan(p)), onLan(want))
	wants(t, "no beginning", g.Step(fromLan(tcp(a8, far, api.Segment{From: 9, To: 80, Flags: api.ACK}))))
	q := with(2, ping(a8, far, 5))
	want, _ = icmp.Unreachable(lan, with(1, q), 1)
	wants(t, "full", g.Step(fromLan(q)), onLan(want))
	if len(all(g.Sessions())) != 8 {
		t.Error(look(g))
	}
	p = udp(a8, wan, 5000, 25, "hello")
	want, _ = icmp.Unreachable(lan, less(p), 1)
	wants(t, "to the WAN's address", g.Step(fromLan(p)), onLan(want))
}

// A host's packet to the WAN's address comes in at once, as from there.
func TestP26_3Round(t *testing.T) {
	g := home(t)
	asked(g, a7, 6000, adds(a7, "TCP", 80, 8080, 0))
	g.Step(drawn(5))
	s := api.Segment{From: 9, To: 80, Seq: 7, Flags: api.SYN}
	to := s
	to.From, to.To = 1029, 8080
	wants(t, "mapping", g.Step(fromLan(tcp(a8, wan, s))), onLan(less(tcp(wan, a7, to))))
	back := api.Segment{From: 8080, To: 1029, Seq: 1, Ack: 8, Flags: api.SYN | api.ACK}
	at := back
	at.From, at.To = 80, 9
	wants(t, "back", g.Step(fromLan(tcp(a7, wan, back))), onLan(less(tcp(wan, a8, at))))
	g.Step(drawn(6))
	wants(t, "forward", g.Step(fromLan(udp(a9, wan, 7, 25, "x"))), onLan(less(udp(wan, a9, 1030, 26, "x"))))
	wants(t, "no rule", g.Step(fromLan(udp(a8, wan, 7, 99, "x"))))
	wants(t, "question", g.Step(fromLan(ping(a8, wan, 7))))
	// An error that goes to the WAN's address, but of another flow.
	g.Step(fromLan(udp(a8, far, 7, 53, "x")))
	tells := message(a8, wan, api.Message{Type: 3, Code: 3, Data: carried(udp(far, a8, 53, 7, "answer"))})
	wants(t, "error", g.Step(fromLan(tells)))
}

// What comes in goes to a host by a session, a mapping, a forward, or the DMZ.
func TestP26_4In(t *testing.T) {
	g := home(t)
	asked(g, a7, 6000, adds(a7, "UDP", 80, 8080, 0))
	g.Step(drawn(5))
	g.Step(fromLan(udp(a8, far, 5000, 53, "x")))
	for _, ttl := range []byte{2, 3, 64, 255} {
		wants(t, "session", g.Step(fromWan(with(ttl, udp(far, wan, 53, 1029, "answer")))), onLan(with(ttl-1, udp(far, a8, 53, 5000, "answer"))))
		wants(t, "mapping", g.Step(fromWan(with(ttl, udp(far, wan, 1, 80, "x")))), onLan(with(ttl-1, udp(far, a7, 1, 8080, "x"))))
		wants(t, "forward", g.Step(fromWan(with(ttl, udp(near, wan, 1, 25, "x")))), onLan(with(ttl-1, udp(near, a9, 1, 26, "x"))))
	}
	wants(t, "another sender", g.Step(fromWan(udp(near, wan, 53, 1029, "answer"))))
	wants(t, "another port", g.Step(fromWan(udp(far, wan, 54, 1029, "answer"))))
	wants(t, "another protocol", g.Step(fromWan(tcp(far, wan, api.Segment{From: 1, To: 80, Flags: api.SYN}))))
	wants(t, "no rule", g.Step(fromWan(udp(far, wan, 1, 81, "x"))))
	wants(t, "the server", g.Step(fromWan(tcp(far, wan, api.Segment{From: 1, To: 5000, Flags: api.SYN}))))
	wants(t, "a search", g.Step(fromWan(udp(far, wan, 1, 1900, "M-SEARCH * HTTP/1.1\r\nMAN: \"ssdp:discover\"\r\nMX: 1\r\nST: ssdp:all\r\n\r\n"))))
	c := config()
	c.DMZ = a9
	g.Step(becomes(c))
	g.Step(hello(a9))
	wants(t, "DMZ", g.Step(fromWan(udp(far, wan, 1, 5000, "x"))), onLan(less(udp(far, a9, 1, 5000, "x"))))
	g.Step(hello(a7))
	wants(t, "mapping", g.Step(fromWan(udp(far, wan, 1, 80, "x"))), onLan(less(udp(far, a7, 1, 8080, "x"))))
}

// An error of the WAN comes to the host whose packet it tells of, and an answer to who has asked.
func TestP26_4InMessages(t *testing.T) {
	g := home(t)
	g.Step(drawn(5))
	g.Step(drawn(6))
	g.Step(fromLan(udp(a8, far, 5000, 53, "x")))
	g.Step(fromLan(ping(a7, far, 9)))
	tells := message(near, wan, api.Message{Type: 11, Data: carried(udp(wan, far, 1029, 53, "x"))})
	p := packetOf(t, "error", g.Step(fromWan(tells)))
	m, err := trans.ReadICMP(p.Body)
	if p.Dst != a8 || p.Src != near || p.TTL != 63 || err != api.OK || !bytes.Equal(m.Data[12:24], carried(udp(a8, far, 5000, 53, "x"))[12:24]) {
		t.Error(p)
	}
	answer := func(dst api.Addr, id uint32) api.Packet {
		return message(far, dst, api.Message{Type: 0, Rest: id << 16})
	}
	wants(t, "answer", g.Step(fromWan(answer(wan, 1030))), onLan(less(answer(a7, 9))))
	wants(t, "another answer", g.Step(fromWan(answer(wan, 9))))
	wants(t, "question", g.Step(fromWan(ping(far, wan, 1030))))
}

// What the WAN may not send.
func TestP26_4NotIn(t *testing.T) {
	in := udp(far, wan, 1, 25, "hello")
	c := config()
	frame := func(change func(f *api.Frame)) api.Event {
		f := packetFrame(c.WanMAC, c.HopMAC, in)
		change(&f)
		return came(api.EvWan, bytesOf(f))
	}
	for name, e := range map[string]api.Event{
		"no frame":              came(api.EvWan, nil),
		"short":                 came(api.EvWan, fromWan(in).Data[:13]),
		"short packet":          came(api.EvWan, fromWan(in).Data[:33]),
		"long":                  came(api.EvWan, append(fromWan(in).Data, make([]byte, 1514)...)),
		"kind":                  frame(func(f *api.Frame) { f.Kind = 0x86dd }),
		"to another one":        frame(func(f *api.Frame) { f.Dst[5] = 9 }),
		"to the LAN's":          frame(func(f *api.Frame) { f.Dst = c.LanMAC }),
		"to all":                frame(func(f *api.Frame) { f.Dst = ether.All() }),
		"check sum":             spoil(fromWan(in), 14+10),
		"check sum of the data": spoil(fromWan(in), len(fromWan(in).Data)-1),
		"from nowhere":          fromWan(udp(0, wan, 1, 25, "hello")),
		"from itself":           fromWan(udp(wan, wan, 1, 25, "hello")),
		"from a host":           fromWan(udp(a8, wan, 1, 25, "hello")),
		"from the LAN":          fromWan(udp(lan, wan, 1, 25, "hello")),
		"from the LAN's net":    fromWan(udp(0xc0a80100, wan, 1, 25, "hello")),
		"from all of it":        fromWan(udp(0xc0a801ff, wan, 1, 25, "hello")),
		"to another address":    fromWan(udp(far, near, 1, 25, "hello")),
		"to the LAN's address":  fromWan(udp(far, lan, 1, 25, "hello")),
		"to a host":             fromWan(udp(far, a9, 1, 26, "hello")),
		"to all there are":      fromWan(udp(far, 0xffffffff, 1, 25, "hello")),
		"TTL 1":                 fromWan(with(1, in)),
		"TTL 0":                 fromWan(with(0, in)),
		"ping":                  fromWan(ping(far, wan, 1)),
	} {
		g := home(t)
		was := look(g)
		wants(t, name, g.Step(e))
		if look(g) != was {
			t.Errorf("%s: %s", name, look(g))
		}
	}
	g := home(t)
	for _, src := range []api.Addr{1, 0xc0a80001, 0xc0a80207, 0xffffffff} {
		wants(t, "from elsewhere", g.Step(fromWan(udp(src, wan, 1, 25, "x"))), onLan(less(udp(src, a9, 1, 26, "x"))))
	}
	wants(t, "from whatever address", g.Step(frame(func(f *api.Frame) { f.Src = ether.All() })), onLan(less(udp(far, a9, 1, 26, "hello"))))
}

func TestP26_4ARP(t *testing.T) {
	c := config()
	hop := api.ARP{Op: 1, From: api.MAC{2, 3, 4, 5, 6, 7}, To: api.MAC{9, 9, 9, 9, 9, 9}, Src: near, Dst: wan}
	answer := api.Out{Data: bytesOf(arpFrame(hop.From, c.WanMAC, api.ARP{Op: 2, From: c.WanMAC, To: hop.From, Src: wan, Dst: near}))}
	event := func(to api.MAC, change func(a *api.ARP)) api.Event {
		a := hop
		change(&a)
		return came(api.EvWan, bytesOf(arpFrame(to, c.HopMAC, a)))
	}
	same := func(*api.ARP) {}
	g := home(t)
	wants(t, "question", g.Step(event(c.WanMAC, same)), answer)
	wants(t, "to another one", g.Step(event(c.HopMAC, same)))
	wants(t, "to all", g.Step(event(ether.All(), same)))
	wants(t, "an answer", g.Step(event(c.WanMAC, func(a *api.ARP) { a.Op = 2 })))
	wants(t, "for another one", g.Step(event(c.WanMAC, func(a *api.ARP) { a.Dst = near })))
	wants(t, "for the LAN's", g.Step(event(c.WanMAC, func(a *api.ARP) { a.Dst = lan })))
	wants(t, "no ARP", g.Step(spoil(event(c.WanMAC, same), 14)))
	// Nobody becomes known by the WAN.
	g = begins(t, config(api.Forward{Proto: api.UDP, Port: 25, To: 26, Host: a9}))
	g.Step(event(c.WanMAC, func(a *api.ARP) { a.Src = a9 }))
	wants(t, "unknown", g.Step(fromWan(udp(far, wan, 1, 25, "x"))), asks(a9))
}

func TestP26_3LanARP(t *testing.T) {
	c := config(api.Forward{Proto: api.UDP, Port: 25, To: 26, Host: a9})
	ask := api.ARP{Op: 1, From: mac(a9), To: api.MAC{9, 9, 9, 9, 9, 9}, Src: a9, Dst: lan}
	answer := api.Out{Lan: true, Data: bytesOf(arpFrame(mac(a9), c.LanMAC, api.ARP{Op: 2, From: c.LanMAC, To: mac(a9), Src: lan, Dst: a9}))}
	in := udp(far, wan, 1, 25, "x")
	goes := onLan(less(udp(far, a9, 1, 26, "x")))
	event := func(to, from api.MAC, change func(a *api.ARP)) api.Event {
		a := ask
		change(&a)
		return came(api.EvLan, bytesOf(arpFrame(to, from, a)))
	}
	same := func(*api.ARP) {}
	for name, x := range map[string]struct {
		e    api.Event
		want []api.Out
	}{
		"to all":           {event(ether.All(), mac(a9), same), []api.Out{goes, goes, answer}},
		"to the gateway":   {event(c.LanMAC, mac(a9), same), []api.Out{goes, goes, answer}},
		"of another frame": {event(c.LanMAC, mac(a7), same), []api.Out{goes, goes, answer}},
		"for another one":  {event(ether.All(), mac(a9), func(a *api.ARP) { a.Dst = a8 }), []api.Out{goes, goes}},
		"an answer":        {event(c.LanMAC, mac(a9), func(a *api.ARP) { a.Op = 2 }), []api.Out{goes, goes}},
		"to another one":   {event(mac(a8), mac(a9), same), nil},
		"from a group":     {event(c.LanMAC, ether.All(), same), nil},
		"of a group":       {event(c.LanMAC, mac(a9), func(a *api.ARP) { a.From[0] = 1 }), nil},
		"of no host":       {event(c.LanMAC, mac(a9), func(a *api.ARP) { a.Src = near }), nil},
		"no ARP":           {spoil(event(c.LanMAC, mac(a9), same), 14), nil},
		"short":            {came(api.EvLan, event(c.LanMAC, mac(a9), same).Data[:41]), nil},
	} {
		g := begins(t, c)
		g.Step(fromWan(in))
		g.Step(fromWan(in))
		wants(t, name, g.Step(x.e), x.want...)
	}
	g := begins(t, c)
	other := ask
	other.Src, other.From = a8, mac(a8)
	answer8 := api.Out{Lan: true, Data: bytesOf(arpFrame(mac(a8), c.LanMAC, api.ARP{Op: 2, From: c.LanMAC, To: mac(a8), Src: lan, Dst: a8}))}
	wants(t, "the answer goes to its To", g.Step(came(api.EvLan, bytesOf(arpFrame(ether.All(), mac(a7), other)))), answer8)
}

// Who sends is known by its frame, also by one for others or that goes nowhere, and what is held for it goes ahead of all else.
func TestP26_3Learn(t *testing.T) {
	c := config(api.Forward{Proto: api.UDP, Port: 25, To: 26, Host: a9})
	in := udp(far, wan, 1, 25, "x")
	goes := onLan(less(udp(far, a9, 1, 26, "x")))
	for name, x := range map[string]struct {
		e    api.Event
		want []api.Out
	}{
		"to another one":    {came(api.EvLan, bytesOf(packetFrame(mac(a8), mac(a9), udp(a9, a8, 1, 2, "x")))), nil},
		"to all":            {toAll(ether.All(), udp(a9, 0xffffffff, 1, 2, "x")), []api.Out{goes}},
		"to nowhere":        {fromLan(udp(a9, 0, 1, 2, "x")), []api.Out{goes}},
		"question":          {fromLan(ping(a9, lan, 1)), []api.Out{goes, onLan(message(lan, a9, api.Message{Type: 0, Rest: 1<<16 | 1, Data: []byte("ping")}))}},
		"exceeded":          {fromLan(with(1, tcp(a9, far, api.Segment{Flags: api.RST}))), []api.Out{goes, onLan(exceeded(with(1, tcp(a9, far, api.Segment{Flags: api.RST}))))}},
		"no right datagram": {spoil(fromLan(udp(a9, far, 1, 2, "x")), 14+20+8), []api.Out{goes}},
		"no right packet":   {spoil(fromLan(udp(a9, far, 1, 2, "x")), 14+10), nil},
		"no host":           {fromLan(udp(near, far, 1, 2, "x")), nil},
	} {
		g := begins(t, c)
		g.Step(fromWan(in))
		wants(t, name, g.Step(x.e), x.want...)
	}
	g := begins(t, c)
	g.Step(fromLan(udp(a9, 0, 1, 2, "x")))
	g.Step(tick(299))
	wants(t, "known", g.Step(fromWan(in)), goes)
	// Another Ethernet address from then on.
	f := packetFrame(c.LanMAC, api.MAC{2, 2, 2, 2, 2, 2}, udp(a9, 0, 1, 2, "x"))
	g.Step(came(api.EvLan, bytesOf(f)))
	moved := api.Out{Lan: true, Data: bytesOf(packetFrame(f.Src, c.LanMAC, less(udp(far, a9, 1, 26, "x"))))}
	wants(t, "moved", g.Step(fromWan(in)), moved)
}

func exceeded(p api.Packet) api.Packet {
	q, _ := icmp.Exceeded(lan, p)
	return q
}

// Of what can't be held nothing is ever sent, and it is asked for each time.
func TestP26_3Held(t *testing.T) {
	c := config(api.Forward{Proto: api.UDP, Port: 25, To: 26, Host: a9}, api.Forward{Proto: api.UDP, Port: 26, To: 26, Host: a8})
	c.MaxSessions = 100
	g := begins(t, c)
	var want []api.Out
	for i := range uint16(16) {
		out := g.Step(fromWan(udp(far, wan, 100+i, 25, "x")))
		if i == 0 {
			wants(t, "first", out, asks(a9))
		} else {
			wants(t, "others", out)
		}
		want = append(want, onLan(less(udp(far, a9, 100+i, 26, "x"))))
	}
	wants(t, "no room", g.Step(fromWan(udp(far, wan, 116, 25, "x"))))
	wants(t, "no room", g.Step(fromWan(udp(far, wan, 1, 26, "x"))), asks(a8))
	wants(t, "no room", g.Step(fromWan(udp(far, wan, 1, 26, "x"))), asks(a8))
	wants(t, "hello", g.Step(hello(a8)))
	wants(t, "hello", g.Step(hello(a9)), want...)
	wants(t, "once", g.Step(hello(a9)))
}

func TestP26_3Echo(t *testing.T) {
	g := home(t)
	q := with(1, ping(a7, lan, 9))
	q.ID = 77
	want := message(lan, a7, api.Message{Type: 0, Rest: 9<<16 | 1, Data: []byte("ping")})
	want.ID = 77
	wants(t, "question", g.Step(fromLan(q)), onLan(want))
	wants(t, "to all", g.Step(toAll(ether.All(), q)))
	for name, m := range map[string]api.Message{
		"answer": {Type: 0}, "code": {Type: 8, Code: 1}, "error": {Type: 3, Data: carried(udp(lan, a7, 1, 2, "x"))}, "time": {Type: 13},
	} {
		wants(t, name, g.Step(fromLan(message(a7, lan, m))))
	}
	wants(t, "check sum", g.Step(spoil(fromLan(q), len(fromLan(q).Data)-1)))
	if len(all(g.Sessions())) != 0 {
		t.Error(look(g))
	}
}

func TestP26_3NoPort(t *testing.T) {
	g := home(t)
	for _, to := range []uint16{0, 53, 1899, 1901, 5000, 40000} {
		p := with(byte(to), udp(a7, lan, 9, to, "hello"))
		want, _ := icmp.Unreachable(lan, p, 3)
		wants(t, "no port", g.Step(fromLan(p)), onLan(want))
		wants(t, "to all", g.Step(toAll(ether.All(), p)))
		wants(t, "check sum", g.Step(spoil(fromLan(p), len(fromLan(p).Data)-1)))
	}
	odd := udp(a7, lan, 9, 9, "x")
	odd.Proto = 99
	wants(t, "protocol", g.Step(fromLan(odd)))
}

// answers gives the frames that answer a search of a host, whose IDs begin with one.
func answers(id uint16, dst api.Addr, to uint16, search string) []api.Out {
	var out []api.Out
	for i, text := range ssdp.Search(config(), []byte(search)) {
		out = append(out, onLan(own(id+uint16(i), udp(lan, dst, 1900, to, string(text)))))
	}
	return out
}

func TestP26_2Search(t *testing.T) {
	search := func(st string) string {
		return "M-SEARCH * HTTP/1.1\r\nHOST: 239.255.255.250:1900\r\nMAN: \"ssdp:discover\"\r\nMX: 1\r\nST: " + st + "\r\n\r\n"
	}
	g := home(t)
	group := api.MAC{1, 0, 94, 0x7f, 0xff, 0xfa}
	six := answers(0, a7, 49152, search("ssdp:all"))
	if len(six) != 6 {
		t.Fatal(showAll(six))
	}
	wants(t, "all", g.Step(toAll(group, udp(a7, seek, 49152, 1900, search("ssdp:all")))), six...)
	wants(t, "to all", g.Step(toAll(ether.All(), udp(a7, seek, 49152, 1900, search("ssdp:all")))), answers(6, a7, 49152, search("ssdp:all"))...)
	wants(t, "in the gateway's own frame", g.Step(fromLan(udp(a8, seek, 1, 1900, search("ssdp:all")))), answers(12, a8, 1, search("ssdp:all"))...)
	wants(t, "to the gateway", g.Step(fromLan(udp(a7, lan, 1900, 1900, search("upnp:rootdevice")))), answers(18, a7, 1900, search("upnp:rootdevice"))...)
	wants(t, "TTL", g.Step(toAll(group, with(0, udp(a7, seek, 0, 1900, search("upnp:rootdevice"))))), answers(19, a7, 0, search("upnp:rootdevice"))...)
	odd := tcp(a7, seek, api.Segment{From: 9, To: 1900, Flags: api.SYN})
	for name, e := range map[string]api.Event{
		"name":            toAll(group, udp(a7, seek, 9, 1900, search("x"))),
		"name, to it":     fromLan(udp(a7, lan, 9, 1900, search("x"))),
		"nothing":         fromLan(udp(a7, lan, 9, 1900, "")),
		"port":            toAll(group, udp(a7, seek, 9, 1901, search("ssdp:all"))),
		"group":           toAll(group, udp(a7, seek+1, 9, 1900, search("ssdp:all"))),
		"TCP":             toAll(group, odd),
		"check sum":       spoil(toAll(group, udp(a7, seek, 9, 1900, search("ssdp:all"))), 14+20+8),
		"check sum to it": spoil(fromLan(udp(a7, lan, 9, 1900, search("ssdp:all"))), 14+20+8),
		"to it by all":    toAll(ether.All(), udp(a7, lan, 9, 1900, search("ssdp:all"))),
		"no host":         toAll(group, udp(near, seek, 9, 1900, search("ssdp:all"))),
		"another frame":   toAll(mac(a8), udp(a7, seek, 9, 1900, search("ssdp:all"))),
	} {
		wants(t, name, g.Step(e))
	}
}

func TestP26_2Refused(t *testing.T) {
	segment := func(to uint16, flags byte, data string) api.Segment {
		return api.Segment{From: 9, To: to, Seq: 1000, Ack: 77, Flags: flags, Window: 500, Data: []byte(data)}
	}
	id := uint16(0)
	g := home(t)
	for _, to := range []uint16{0, 80, 4999, 5000, 5001, 39999, 40000, 49999} {
		for _, x := range []struct {
			flags byte
			data  string
			want  api.Segment
		}{
			{api.ACK, "", api.Segment{Seq: 77, Flags: api.RST}},
			{api.ACK | api.FIN, "hello", api.Segment{Seq: 77, Flags: api.RST}},
			{api.ACK | api.SYN, "hello", api.Segment{Seq: 77, Flags: api.RST}},
			{0, "", api.Segment{Ack: 1000, Flags: api.RST | api.ACK}},
			{0, "hello", api.Segment{Ack: 1005, Flags: api.RST | api.ACK}},
			{api.FIN, "hello", api.Segment{Ack: 1006, Flags: api.RST | api.ACK}},
			{api.PSH, "", api.Segment{Ack: 1000, Flags: api.RST | api.ACK}},
			{api.SYN, "", api.Segment{Ack: 1001, Flags: api.RST | api.ACK}},
			{api.SYN | api.FIN, "hello", api.Segment{Ack: 1007, Flags: api.RST | api.ACK}},
		} {
			if to == 5000 && x.flags&(api.SYN|api.ACK) == api.SYN {
				continue // It begins a connection.
			}
			x.want.From, x.want.To = to, 9
			wants(t, fmt.Sprint("flags ", x.flags, " to ", to), says(g, a7, segment(to, x.flags, x.data)), onLan(own(id, tcp(lan, a7, x.want))))
			id++
		}
		for _, flags := range []byte{api.RST, api.RST | api.ACK, api.RST | api.SYN, 255} {
			wants(t, fmt.Sprint("flags ", flags), says(g, a7, segment(to, flags, "x")))
		}
	}
	wrap := segment(1, api.SYN|api.FIN, "")
	wrap.Seq = 1<<32 - 1
	wants(t, "wrap", says(g, a7, wrap), onLan(own(id, tcp(lan, a7, api.Segment{From: 1, To: 9, Ack: 1, Flags: api.RST | api.ACK}))))
	wants(t, "check sum", g.Step(spoil(fromLan(tcp(a7, lan, segment(80, api.SYN, "x"))), 14+20+20)))
	wants(t, "to all", g.Step(toAll(ether.All(), tcp(a7, lan, segment(80, api.SYN, "")))))
	if g.Conns() != 0 {
		t.Error(g.Conns())
	}
}

// The greatest frames go through.
func TestP26_3Greatest(t *testing.T) {
	g := home(t)
	data := string(bytes.Repeat([]byte("x"), 1472))
	g.Step(drawn(5))
	e := fromLan(udp(a7, far, 5000, 53, data))
	if len(e.Data) != api.MaxFrame {
		t.Fatal(len(e.Data))
	}
	wants(t, "out", g.Step(e), onWan(less(udp(wan, far, 1029, 53, data))))
	wants(t, "in", g.Step(fromWan(udp(far, wan, 53, 1029, data))), onLan(less(udp(far, a7, 53, 5000, data))))
	echo := func(src, dst api.Addr, kind byte) api.Packet {
		return message(src, dst, api.Message{Type: kind, Data: []byte(data)})
	}
	wants(t, "echo", g.Step(fromLan(echo(a7, lan, 8))), onLan(echo(lan, a7, 0)))
}

// Frames may have more bytes behind the packet.
func TestP26_3Padded(t *testing.T) {
	g := home(t)
	g.Step(drawn(5))
	e := fromLan(udp(a7, far, 5000, 53, ""))
	e.Data = append(e.Data, "behind it"...)
	wants(t, "out", g.Step(e), onWan(less(udp(wan, far, 1029, 53, ""))))
	e = fromWan(udp(far, wan, 53, 1029, ""))
	e.Data = append(e.Data, "behind it"...)
	wants(t, "in", g.Step(e), onLan(less(udp(far, a7, 53, 5000, ""))))
}

// P1: whatever comes, Step ends, and what it sends can be read.
func TestP1Wild(t *testing.T) {
	for seed := range int64(60) {
		r := rand.New(rand.NewSource(seed))
		g := begins(t, config(api.Forward{Proto: api.UDP, Port: 25, To: 26, Host: a9}))
		for range 400 {
			e := api.Event{Kind: r.Intn(7) - 1, N: r.Uint64() >> uint(r.Intn(64)), Data: make([]byte, r.Intn(80))}
			r.Read(e.Data)
			if r.Intn(3) > 0 {
				e.Data = wild(r)
			}
			e.Conf = config()
			e.Conf.LanBits, e.Conf.MaxConns = r.Intn(40), r.Intn(40)-3
			for _, o := range g.Step(e) {
				f, err := ether.Read(o.Data)
				_, err2 := inet.Read(f.Body)
				if _, err3 := ether.ReadARP(f.Body); err != api.OK || err2 != api.OK && err3 != api.OK {
					t.Fatalf("seed %d: %s", seed, show(o))
				}
			}
			look(g)
		}
	}
}

// wild gives a frame that may be right but for a few bytes.
func wild(r *rand.Rand) []byte {
	pick := func(all ...api.Addr) api.Addr { return all[r.Intn(len(all))] }
	src, dst := pick(a7, a8, lan, far, wan, api.Addr(r.Uint32())), pick(lan, lan, wan, wan, far, seek, a7, api.Addr(r.Uint32()))
	body := make([]byte, r.Intn(60))
	r.Read(body)
	p := api.Packet{TTL: byte(r.Intn(4)), Proto: []byte{api.ICMP, api.TCP, api.UDP, 9}[r.Intn(4)], Src: src, Dst: dst, Body: body}
	port := []uint16{5000, 1900, 40000, 25, uint16(r.Uint32())}[r.Intn(5)]
	switch r.Intn(4) {
	case 0:
		p.Proto, p.Body = api.UDP, udp(src, dst, uint16(r.Uint32()), port, string(body)).Body
	case 1:
		p.Proto, p.Body = api.TCP, tcp(src, dst, api.Segment{From: uint16(r.Intn(3)), To: port, Seq: r.Uint32(), Ack: r.Uint32(), Flags: byte(r.Uint32()), Data: body}).Body
	case 2:
		p.Proto, p.Body = api.ICMP, message(src, dst, api.Message{Type: byte(r.Intn(14)), Rest: r.Uint32(), Data: carried(udp(dst, src, 1, 2, "x"))}).Body
	}
	c := config()
	to := []api.MAC{c.LanMAC, c.LanMAC, c.WanMAC, c.WanMAC, ether.All()}[r.Intn(5)]
	b := bytesOf(packetFrame(to, mac(src), p))
	if r.Intn(4) == 0 {
		b[r.Intn(len(b))] ^= 1 << uint(r.Intn(8))
	}
	return b
}
