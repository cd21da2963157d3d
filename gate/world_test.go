package gate_test

import (
	"fmt"
	"math/rand"
	"slices"
	"strings"

	"hearth/api"
	"hearth/ether"
	"hearth/gate"
	"hearth/http"
	"hearth/inet"
	"hearth/stream"
	"hearth/trans"
)

// world is what is around a gateway: three hosts with their connections, the WAN, and what is under way.
type world struct {
	*rand.Rand
	g     *gate.Gate
	c     api.Config
	queue []api.Event
	peers []*peer
	outs  []api.Packet // some that went out on the WAN
	port  uint16       // of the next connection of a host
}

// peer is a host's side of a connection to the gateway.
type peer struct {
	*stream.Conn
	host      api.Addr
	port, own uint16 // the host's, the gateway's
	text      string // what is to be said
	ends      bool   // behind that
	got       string
	heard     bool // The note is whole.
}

func oneOf[T any](r *rand.Rand, all ...T) T { return all[r.Intn(len(all))] }

func newWorld(seed int64) *world {
	w := &world{Rand: rand.New(rand.NewSource(seed)), port: 1000}
	w.c = w.config()
	w.g, _ = gate.New(w.c)
	return w
}

// config draws a configuration that is right.
func (w *world) config() api.Config {
	c := config()
	if w.Intn(4) == 0 {
		c.LanAddr, c.LanBits = 0x0a000001, 8
	}
	c.WanAddr = oneOf(w.Rand, wan, wan, near)
	c.LanMAC[5], c.HopMAC[5] = byte(w.Intn(2)), byte(w.Intn(2))
	c.MaxSessions, c.MaxMaps = oneOf(w.Rand, 1, 4, 30, 200), oneOf(w.Rand, 1, 3, 20)
	c.MaxConns, c.MaxSubs = oneOf(w.Rand, 1, 3, 8), oneOf(w.Rand, 1, 2, 5)
	if w.Intn(2) == 0 {
		c.Forwards = []api.Forward{{Proto: oneOf[byte](w.Rand, api.TCP, api.UDP), Port: uint16(80 + w.Intn(10)), To: uint16(8080 + w.Intn(3)), Host: c.LanAddr + 6}}
	}
	if w.Intn(3) == 0 {
		c.DMZ = c.LanAddr + 8
	}
	return c
}

// host draws one of three.
func (w *world) host() api.Addr { return w.c.LanAddr + 6 + api.Addr(w.Intn(3)) }

// lan is a frame of a host with a packet to the gateway.
func (w *world) lan(p api.Packet) api.Event {
	return came(api.EvLan, bytesOf(packetFrame(w.c.LanMAC, mac(p.Src), p)))
}

func (w *world) wan(p api.Packet) api.Event {
	return came(api.EvWan, bytesOf(packetFrame(w.c.WanMAC, w.c.HopMAC, p)))
}

func (w *world) send(x *peer, list []api.Segment) {
	for _, s := range list {
		if w.Intn(200) == 0 {
			s.Flags = api.RST
		}
		w.queue = append(w.queue, w.lan(tcp(x.host, w.c.LanAddr, s)))
	}
}

// push lets a peer say more, and end.
func (w *world) push(x *peer) {
	n := min(len(x.text), oneOf(w.Rand, 1, 20, 300, 3000))
	x.text = x.text[x.Send([]byte(x.text[:n])):]
	if x.text == "" && x.ends {
		x.Close()
	}
	w.send(x, x.Flush(w.g.Now()))
}

// request draws one; most are right.
func (w *world) request(host api.Addr) string {
	client := host
	if w.Intn(10) == 0 {
		client = w.host()
	}
	proto, ext := oneOf(w.Rand, "TCP", "UDP"), 80+w.Intn(12)
	callback := fmt.Sprintf("<http://%s:%d/e>", inet.Text(client), 2000+w.Intn(2))
	sid := sid0
	if subs := all(w.g.Subs()); len(subs) > 0 {
		sid = oneOf(w.Rand, subs...)
	}
	switch w.Intn(16) {
	case 0, 1, 2, 3:
		return adds(client, proto, ext, 8080+w.Intn(2), oneOf(w.Rand, 0, 1, 5, 60, 604800, 604801))
	case 4:
		return strings.Replace(adds(client, proto, 0, 8080, 60), "AddPortMapping", "AddAnyPortMapping", -1)
	case 5:
		return deletes(proto, ext)
	case 6:
		return posts("DeletePortMappingRange", "NewStartPort", "80", "NewEndPort", fmt.Sprint(ext), "NewProtocol", proto, "NewManage", "1")
	case 7:
		return posts("GetListOfPortMappings", "NewStartPort", "0", "NewEndPort", "65535", "NewProtocol", proto, "NewManage", "1", "NewNumberOfPorts", "0")
	case 8, 9, 10:
		return "SUBSCRIBE /evt/ipc HTTP/1.1\r\nHost: a\r\nNT: upnp:event\r\nCALLBACK: " + callback + "\r\nTIMEOUT: Second-" + oneOf(w.Rand, "60", "1800") + "\r\n\r\n"
	case 11:
		return "SUBSCRIBE /evt/ipc HTTP/1.1\r\nHost: a\r\nSID: " + sid + "\r\n\r\n"
	case 12:
		return unsubscribes(sid)
	case 13:
		return oneOf(w.Rand, "GET /desc.xml HTTP/1.0\r\n\r\n", "NONSENSE\r\n\r\n", "POST /ctl/ipc HTTP/1.1\r\nHost: a\r\n\r\n", "GET /x HTTP/1.1\r\nHost: a\r\n", "\r\n")
	case 14:
		return strings.Repeat(gets("/ipc.xml"), oneOf(w.Rand, 1, 2, 40, 80))
	}
	return gets(oneOf(w.Rand, "/desc.xml", "/ipc.xml", "/x", "/ctl/ipc"))
}

// dial begins a host's connection to the server.
func (w *world) dial() {
	host := w.host()
	x := &peer{host: host, port: w.port, own: api.ServerPort, ends: w.Intn(2) == 0}
	w.port++
	for range oneOf(w.Rand, 1, 1, 2, 5) {
		x.text += w.request(host)
	}
	side, out := stream.Dial(x.port, x.own, w.Uint32(), w.g.Now())
	x.Conn = side
	w.peers = append(w.peers, x)
	w.send(x, out)
}

// react lets the frames that are sent come where they go.
func (w *world) react(out []api.Out) {
	for _, o := range out {
		f, _ := ether.Read(o.Data)
		if a, err := ether.ReadARP(f.Body); f.Kind == api.KindARP && err == api.OK {
			if o.Lan && f.Dst == ether.All() && w.Intn(10) > 0 {
				w.queue = append(w.queue, came(api.EvLan, bytesOf(arpFrame(w.c.LanMAC, mac(a.Dst), api.ARP{Op: 2, From: mac(a.Dst), To: a.From, Src: a.Dst, Dst: a.Src}))))
			}
			continue
		}
		p, _ := inet.Read(f.Body)
		switch s, err := trans.ReadTCP(p.Src, p.Dst, p.Body); {
		case !o.Lan:
			w.outs = append(w.outs[max(0, len(w.outs)-20):], p)
			if w.Intn(2) == 0 {
				w.queue = append(w.queue, w.wan(w.reply(p)))
			}
		case p.Src != w.c.LanAddr && w.Intn(3) == 0:
			w.queue = append(w.queue, w.lan(w.reply(p)))
		case p.Src == w.c.LanAddr && p.Proto == api.TCP && err == api.OK:
			w.take(p.Dst, s)
		}
	}
}

// reply gives a packet that may answer another one.
func (w *world) reply(p api.Packet) api.Packet {
	if w.Intn(6) == 0 && len(carried(p)) >= 28 {
		return message(p.Dst, p.Src, api.Message{Type: oneOf[byte](w.Rand, 3, 11), Data: carried(p)[:oneOf(w.Rand, 28, len(carried(p)))]})
	}
	switch p.Proto {
	case api.UDP:
		d, _ := trans.ReadUDP(p.Src, p.Dst, p.Body)
		return udp(p.Dst, p.Src, d.To, d.From, "answer")
	case api.TCP:
		s, _ := trans.ReadTCP(p.Src, p.Dst, p.Body)
		return tcp(p.Dst, p.Src, api.Segment{From: s.To, To: s.From, Seq: w.Uint32(), Ack: s.Seq + 1, Flags: oneOf[byte](w.Rand, api.SYN|api.ACK, api.ACK, api.FIN|api.ACK, api.RST)})
	}
	m, _ := trans.ReadICMP(p.Body)
	m.Type = 0
	return message(p.Dst, p.Src, m)
}

// take lets a segment of the gateway come to a host.
func (w *world) take(host api.Addr, s api.Segment) {
	i := slices.IndexFunc(w.peers, func(x *peer) bool { return x.host == host && x.port == s.To && x.own == s.From })
	if i < 0 {
		w.hear(host, s)
		return
	}
	x := w.peers[i]
	w.send(x, x.Take(s, w.g.Now()))
	x.got += string(x.Read())
	if x.own != api.ServerPort && !x.heard && strings.HasSuffix(x.got, "</e:propertyset>") {
		x.heard = true
		x.text = string(http.Response(oneOf(w.Rand, 200, 200, 200, 200, 204, 500), nil, nil, false))
		if w.Intn(8) == 0 {
			x.text = oneOf(w.Rand, "", "x", "\r\n", strings.Repeat("x", 300), "HTTP/1.1 200\r\n"+strings.Repeat("x", 3000))
		}
		x.ends = w.Intn(4) > 0
	}
	w.push(x)
	if x.Phase() == api.Over || x.Phase() == api.Gone {
		w.peers = slices.Delete(w.peers, i, i+1)
	}
}

// hear takes a segment for which there is no connection: it may begin a telling.
func (w *world) hear(host api.Addr, s api.Segment) {
	switch {
	case s.Flags != api.SYN || w.Intn(20) == 0:
		return
	case w.Intn(20) == 0:
		w.queue = append(w.queue, w.lan(tcp(host, w.c.LanAddr, api.Segment{From: s.To, To: s.From, Ack: s.Seq + 1, Flags: api.RST | api.ACK})))
		return
	}
	side, out := stream.Accept(s, w.Uint32(), w.g.Now())
	x := &peer{Conn: side, host: host, port: s.To, own: s.From}
	w.peers = append(w.peers, x)
	w.send(x, out)
}

// addr draws an address of any kind.
func (w *world) addr() api.Addr {
	return oneOf(w.Rand, w.host(), w.host(), far, far, near, w.c.WanAddr, w.c.WanAddr, w.c.LanAddr, w.c.LanAddr, seek, 0, w.c.LanAddr-1, 0xffffffff, 0xe0000001, api.Addr(w.Uint32()))
}

func (w *world) number() uint16 {
	return oneOf(w.Rand, uint16(80+w.Intn(12)), uint16(80+w.Intn(12)), uint16(8080+w.Intn(3)), uint16(1024+w.Intn(20)), 1900, 5000, 40000, uint16(w.Uint32()))
}

// packet draws one from whomever.
func (w *world) packet(src, dst api.Addr) api.Packet {
	var p api.Packet
	switch w.Intn(9) {
	case 0, 1, 2:
		p = udp(src, dst, w.number(), w.number(), oneOf(w.Rand, "", "x", "hello"))
	case 8:
		p = udp(src, oneOf(w.Rand, dst, seek, w.c.LanAddr), w.number(), 1900, "M-SEARCH * HTTP/1.1\r\nMAN: \"ssdp:discover\"\r\nMX: 1\r\nST: ssdp:all\r\n\r\n")
	case 3, 4, 5:
		p = tcp(src, dst, api.Segment{From: w.number(), To: w.number(), Seq: w.Uint32(), Ack: w.Uint32(), Flags: oneOf(w.Rand, api.SYN, api.SYN, api.ACK, byte(w.Uint32())), Data: []byte(oneOf(w.Rand, "", "x"))})
	case 6:
		p = ping(src, dst, w.number())
	case 7:
		p = message(src, dst, api.Message{Type: byte(w.Intn(14)), Data: carried(w.anything())})
	}
	p.TTL = oneOf[byte](w.Rand, 0, 1, 2, 64, 64, 64, 64, 255)
	p.ID = uint16(w.Uint32())
	return p
}

// anything gives a packet of which an error may tell.
func (w *world) anything() api.Packet {
	if len(w.outs) > 0 && w.Intn(3) > 0 {
		return oneOf(w.Rand, w.outs...)
	}
	return udp(w.addr(), w.addr(), w.number(), w.number(), "x")
}

// arp draws an ARP packet.
func (w *world) arp() api.Event {
	a := w.host()
	e := api.ARP{Op: oneOf[uint16](w.Rand, 1, 1, 1, 2), From: mac(a), Src: a, Dst: oneOf(w.Rand, w.c.LanAddr, w.c.WanAddr, w.host())}
	if w.Intn(10) == 0 {
		e.Src = w.addr()
	}
	to := oneOf(w.Rand, ether.All(), w.c.LanMAC, w.c.WanMAC)
	return came(oneOf(w.Rand, api.EvLan, api.EvLan, api.EvWan), bytesOf(arpFrame(to, mac(a), e)))
}

// knock draws what comes from the WAN to a port of a rule, if there is one.
func (w *world) knock() api.Event {
	src, proto, port := oneOf(w.Rand, far, near), oneOf[byte](w.Rand, api.TCP, api.UDP), w.number()
	for _, f := range w.c.Forwards {
		proto, port = f.Proto, f.Port
	}
	if list := all(w.g.Maps()); len(list) > 0 && w.Intn(2) == 0 {
		e := oneOf(w.Rand, list...)
		proto, port = e.Proto, e.Ext
	}
	if proto == api.UDP {
		return w.wan(udp(src, w.c.WanAddr, w.number(), port, "knock"))
	}
	return w.wan(tcp(src, w.c.WanAddr, api.Segment{From: w.number(), To: port, Flags: api.SYN}))
}

// stranger draws a frame with which something may be wrong.
func (w *world) stranger() api.Event {
	src, dst := w.addr(), w.addr()
	e := oneOf(w.Rand, w.lan(w.packet(src, dst)), w.wan(w.packet(src, dst)), w.wan(w.packet(src, w.c.WanAddr)), w.lan(w.packet(w.host(), dst)))
	switch w.Intn(6) {
	case 0:
		e.Data[w.Intn(len(e.Data))] ^= 1 << uint(w.Intn(8))
	case 1:
		e.Data = e.Data[:w.Intn(len(e.Data))]
	case 2:
		copy(e.Data, oneOf(w.Rand, "\xff\xff\xff\xff\xff\xff", "\x01\x00\x5e\x7f\xff\xfa", "\x02\x00\x00\x00\x00\x09"))
	}
	return e
}

// tick lets seconds go by, for the hosts too.
func (w *world) tick() api.Event {
	n := oneOf[uint64](w.Rand, 0, 1, 1, 1, 1, 1, 1, 2, 3, 3, 3, 5, 5, 10)
	if w.Intn(12) == 0 {
		n = oneOf[uint64](w.Rand, 30, 60, 100, 300, 900, 10000, 1<<33)
	}
	for _, x := range w.peers {
		w.send(x, x.Tick(w.g.Now()+min(n, 1000)))
	}
	return tick(n)
}

// conf draws another configuration, which holds, if it is right.
func (w *world) conf() api.Event {
	c := w.config()
	if w.Intn(4) == 0 {
		c.LanBits = 31
		return becomes(c)
	}
	w.c = c
	return becomes(c)
}

// event draws what happens next.
func (w *world) event() api.Event {
	if n := len(w.queue); n > 0 && w.Intn(3) > 0 {
		i := min(w.Intn(n), w.Intn(n))
		e := w.queue[i]
		if w.Intn(20) > 0 {
			w.queue = slices.Delete(w.queue, i, i+1)
		}
		return e
	}
	switch w.Intn(40) {
	case 0, 1, 2, 3, 4:
		return w.tick()
	case 5, 6, 7, 8, 9, 10, 11, 12:
		w.dial()
		if w.Intn(3) > 0 {
			return api.Event{}
		}
		return drawn(oneOf(w.Rand, 0, uint64(w.Intn(3)), w.Uint64()))
	case 13, 14, 15, 16, 17, 18:
		return w.lan(w.packet(w.host(), oneOf(w.Rand, far, near, w.c.WanAddr, w.addr())))
	case 19, 20:
		return w.knock()
	case 21, 22, 23:
		return w.wan(w.packet(oneOf(w.Rand, far, near, w.addr()), w.c.WanAddr))
	case 24, 25, 26:
		return w.stranger()
	case 27, 28, 29:
		return w.arp()
	case 30:
		if w.Intn(4) == 0 {
			return w.conf()
		}
		return api.Event{Kind: w.Intn(9) - 3}
	case 31:
		return api.Event{Kind: oneOf(w.Rand, api.EvLan, api.EvWan), Data: bytesOf(api.Frame{Dst: w.c.LanMAC, Kind: oneOf[uint16](w.Rand, api.KindIP, api.KindARP, 0x86dd), Body: []byte(oneOf(w.Rand, "", "x"))})}
	}
	for _, x := range w.peers {
		w.push(x)
	}
	if w.Intn(3) > 0 {
		return api.Event{}
	}
	return drawn(w.Uint64())
}
