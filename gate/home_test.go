package gate_test

import (
	"fmt"
	"strings"
	"testing"

	"hearth/api"
	"hearth/ether"
	"hearth/gate"
	"hearth/http"
	"hearth/igd"
	"hearth/inet"
	"hearth/soap"
	"hearth/stream"
	"hearth/trans"
)

// The signatures that the chapter lists.
var (
	_ func(api.Config) (*gate.Gate, api.Errno)      = gate.New
	_ func(*gate.Gate, api.Event) []api.Out         = (*gate.Gate).Step
	_ func(*gate.Gate) uint64                       = (*gate.Gate).Now
	_ func(*gate.Gate) api.Config                   = (*gate.Gate).Config
	_ func(*gate.Gate) func(func(api.Entry) bool)   = (*gate.Gate).Maps
	_ func(*gate.Gate) func(func(api.Session) bool) = (*gate.Gate).Sessions
	_ func(*gate.Gate) func(func(string) bool)      = (*gate.Gate).Subs
	_ func(*gate.Gate) int                          = (*gate.Gate).Conns
	_ func(*gate.Gate) uint32                       = (*gate.Gate).Update
)

const (
	lan  api.Addr = 0xc0a80101
	wan  api.Addr = 0xcb007105
	a7   api.Addr = 0xc0a80107
	a8   api.Addr = 0xc0a80108
	a9   api.Addr = 0xc0a80109
	far  api.Addr = 0x08080808
	near api.Addr = 0xc6336401
	seek api.Addr = 0xeffffffa // 239.255.255.250
)

func config(forwards ...api.Forward) api.Config {
	return api.Config{
		LanMAC: api.MAC{2, 0, 0, 0, 0, 1}, WanMAC: api.MAC{2, 0, 0, 0, 1, 1}, HopMAC: api.MAC{2, 0, 0, 0, 1, 2},
		LanAddr: lan, WanAddr: wan, LanBits: 24, MaxSessions: 8, MaxMaps: 4, MaxConns: 3, MaxSubs: 2,
		Forwards: forwards, UUID: "00000000-1111-2222-3333-444444444444",
	}
}

// mac gives a host's Ethernet address.
func mac(a api.Addr) api.MAC { return api.MAC{2, 0, 9, 9, byte(a >> 8), byte(a)} }

// begins gives a gateway.
func begins(t *testing.T, c api.Config) *gate.Gate {
	t.Helper()
	g, err := gate.New(c)
	if g == nil || err != api.OK {
		t.Fatal(err)
	}
	return g
}

// must gives what was written, of which the test knows that it can be.
func must(b []byte, err api.Errno) []byte {
	if err != api.OK {
		panic(err)
	}
	return b
}

func tick(n uint64) api.Event           { return api.Event{Kind: api.EvTick, N: n} }
func drawn(n uint64) api.Event          { return api.Event{Kind: api.EvDraw, N: n} }
func becomes(c api.Config) api.Event    { return api.Event{Kind: api.EvConf, Conf: c} }
func came(kind int, b []byte) api.Event { return api.Event{Kind: kind, Data: b} }
func bytesOf(f api.Frame) []byte        { return must(ether.Write(f)) }
func carried(p api.Packet) []byte       { return must(inet.Write(p)) }
func arped(a api.ARP) []byte            { return must(ether.WriteARP(a)) }
func packetFrame(to, from api.MAC, p api.Packet) api.Frame {
	return api.Frame{Dst: to, Src: from, Kind: api.KindIP, Body: carried(p)}
}
func arpFrame(to, from api.MAC, a api.ARP) api.Frame {
	return api.Frame{Dst: to, Src: from, Kind: api.KindARP, Body: arped(a)}
}

// fromLan is a frame that comes with a packet of the LAN, from its Src to the gateway.
func fromLan(p api.Packet) api.Event {
	return came(api.EvLan, bytesOf(packetFrame(config().LanMAC, mac(p.Src), p)))
}

// toAll is one that comes to a group, or to all.
func toAll(to api.MAC, p api.Packet) api.Event {
	return came(api.EvLan, bytesOf(packetFrame(to, mac(p.Src), p)))
}

// fromWan is a frame that comes with a packet of the WAN.
func fromWan(p api.Packet) api.Event {
	return came(api.EvWan, bytesOf(packetFrame(config().WanMAC, config().HopMAC, p)))
}

// onLan is a frame with a packet to a host whose Ethernet address is known.
func onLan(p api.Packet) api.Out {
	return api.Out{Lan: true, Data: bytesOf(packetFrame(mac(p.Dst), config().LanMAC, p))}
}

// onWan is a frame with a packet to the next hop.
func onWan(p api.Packet) api.Out {
	return api.Out{Data: bytesOf(packetFrame(config().HopMAC, config().WanMAC, p))}
}

// asks is the frame by which a host's Ethernet address is asked for.
func asks(a api.Addr) api.Out {
	c := config()
	return api.Out{Lan: true, Data: bytesOf(arpFrame(ether.All(), c.LanMAC, api.ARP{Op: 1, From: c.LanMAC, Src: lan, Dst: a}))}
}

// hello is an ARP packet of a host by which it becomes known, and which asks for nothing.
func hello(a api.Addr) api.Event {
	return came(api.EvLan, bytesOf(arpFrame(ether.All(), mac(a), api.ARP{Op: 1, From: mac(a), Src: a, Dst: a})))
}

func udp(src, dst api.Addr, from, to uint16, data string) api.Packet {
	b := must(trans.WriteUDP(src, dst, api.Datagram{From: from, To: to, Data: []byte(data)}))
	return api.Packet{TTL: 64, Proto: api.UDP, ID: 0x1234, Src: src, Dst: dst, Body: b}
}

func tcp(src, dst api.Addr, s api.Segment) api.Packet {
	return api.Packet{TTL: 64, Proto: api.TCP, ID: 0x1234, Src: src, Dst: dst, Body: must(trans.WriteTCP(src, dst, s))}
}

func message(src, dst api.Addr, m api.Message) api.Packet {
	return api.Packet{TTL: 64, Proto: api.ICMP, ID: 0x1234, Src: src, Dst: dst, Body: must(trans.WriteICMP(m))}
}

// ping is an echo question.
func ping(src, dst api.Addr, id uint16) api.Packet {
	return message(src, dst, api.Message{Type: 8, Rest: uint32(id)<<16 | 1, Data: []byte("ping")})
}

// own lets a packet be one of the gateway's own with an ID.
func own(id uint16, p api.Packet) api.Packet {
	p.TTL, p.ID = 64, id
	return p
}

// less gives a packet that has gone one further.
func less(p api.Packet) api.Packet {
	p.TTL--
	return p
}

// with gives a packet with another TTL.
func with(ttl byte, p api.Packet) api.Packet {
	p.TTL = ttl
	return p
}

// show tells what a frame has in it.
func show(o api.Out) string {
	side := "WAN"
	if o.Lan {
		side = "LAN"
	}
	f, err := ether.Read(o.Data)
	if err != api.OK {
		return fmt.Sprintf("%s %x", side, o.Data)
	}
	return fmt.Sprintf("%s %x>%x %s", side, f.Src, f.Dst, showBody(f))
}

func showBody(f api.Frame) string {
	if a, err := ether.ReadARP(f.Body); f.Kind == api.KindARP && err == api.OK {
		return fmt.Sprintf("ARP %+v", a)
	}
	p, err := inet.Read(f.Body)
	if f.Kind != api.KindIP || err != api.OK {
		return fmt.Sprintf("%x %x", f.Kind, f.Body)
	}
	text := fmt.Sprintf("%s>%s TTL %d ID %d ", inet.Text(p.Src), inet.Text(p.Dst), p.TTL, p.ID)
	if s, err := trans.ReadTCP(p.Src, p.Dst, p.Body); p.Proto == api.TCP && err == api.OK {
		return text + fmt.Sprintf("TCP %d>%d flags %d Seq %d Ack %d Window %d %q", s.From, s.To, s.Flags, s.Seq, s.Ack, s.Window, s.Data)
	}
	if d, err := trans.ReadUDP(p.Src, p.Dst, p.Body); p.Proto == api.UDP && err == api.OK {
		return text + fmt.Sprintf("UDP %d>%d %t %q", d.From, d.To, d.Plain, d.Data)
	}
	if m, err := trans.ReadICMP(p.Body); p.Proto == api.ICMP && err == api.OK {
		return text + fmt.Sprintf("ICMP %d %d %x %q", m.Type, m.Code, m.Rest, m.Data)
	}
	return text + fmt.Sprintf("%d %x", p.Proto, p.Body)
}

// showAll tells what is sent, a line each.
func showAll(out []api.Out) string {
	var b strings.Builder
	for _, o := range out {
		b.WriteString("\n\t" + show(o) + fmt.Sprintf(" %x", o.Data))
	}
	return b.String()
}

// wants wants just these frames to be sent.
func wants(t *testing.T, name string, got []api.Out, want ...api.Out) {
	t.Helper()
	if g, w := showAll(got), showAll(want); g != w {
		t.Errorf("%s: %s\nnot: %s", name, g, w)
	}
}

// packetOf gives the packet of the only frame that is sent.
func packetOf(t *testing.T, name string, out []api.Out) api.Packet {
	t.Helper()
	if len(out) != 1 {
		t.Fatalf("%s: %s", name, showAll(out))
	}
	f, err := ether.Read(out[0].Data)
	p, err2 := inet.Read(f.Body)
	if err != api.OK || err2 != api.OK {
		t.Fatalf("%s: %s", name, showAll(out))
	}
	return p
}

// nextID gives the ID of the next packet of the gateway's own, behind the one by which it is learned.
func nextID(t *testing.T, g *gate.Gate) uint16 {
	t.Helper()
	return packetOf(t, "ID", says(g, a8, api.Segment{From: 9, To: 9})).ID + 1
}

// segments gives the segments that are sent from a port of the gateway to a host's port.
func segments(out []api.Out, from uint16, host api.Addr, to uint16) []api.Segment {
	var list []api.Segment
	for _, o := range out {
		f, _ := ether.Read(o.Data)
		p, err := inet.Read(f.Body)
		if !o.Lan || err != api.OK || p.Proto != api.TCP || p.Dst != host {
			continue
		}
		if s, err := trans.ReadTCP(p.Src, p.Dst, p.Body); err == api.OK && s.From == from && s.To == to {
			list = append(list, s)
		}
	}
	return list
}

// says lets a host send a segment to the gateway, and gives what is sent.
func says(g *gate.Gate, host api.Addr, s api.Segment) []api.Out {
	return g.Step(fromLan(tcp(host, g.Config().LanAddr, s)))
}

// client is a host's side of a connection to the server.
type client struct {
	*stream.Conn
	g    *gate.Gate
	host api.Addr
	port uint16
	got  string
	rest []api.Out // what else was sent meanwhile
}

// dials begins one, and lets all be brought to and fro.
func dials(g *gate.Gate, host api.Addr, port uint16) *client {
	c := &client{g: g, host: host, port: port}
	side, todo := stream.Dial(port, api.ServerPort, 1000, g.Now())
	c.Conn = side
	c.bring(todo)
	return c
}

// bring brings segments to the server, and what it sends back, till nothing is sent any more.
func (c *client) bring(todo []api.Segment) {
	for len(todo) > 0 {
		out := says(c.g, c.host, todo[0])
		todo = append(todo[1:], c.takes(out)...)
	}
}

// takes lets what is sent come to the client, and gives what it sends.
func (c *client) takes(out []api.Out) []api.Segment {
	var todo []api.Segment
	its := segments(out, api.ServerPort, c.host, c.port)
	if len(its) < len(out) {
		c.rest = append(c.rest, out...)
	}
	for _, s := range its {
		todo = append(todo, c.Take(s, c.g.Now())...)
		c.got += string(c.Read())
	}
	return todo
}

// say says a text, and gives all that is answered to it.
func (c *client) say(text string) string {
	c.got = ""
	for {
		text = text[c.Send([]byte(text)):]
		c.bring(c.Flush(c.g.Now()))
		if text == "" || c.Phase() != api.Open {
			return c.got
		}
	}
}

// asked lets a host say a text on a connection of its own, and end.
func asked(g *gate.Gate, host api.Addr, port uint16, text string) (string, []api.Out) {
	c := dials(g, host, port)
	c.say(text)
	c.Close()
	c.bring(c.Flush(g.Now()))
	return c.got, c.rest
}

// posts gives the request for an action.
func posts(action string, pairs ...string) string {
	c := api.Call{Service: igd.Service, Action: action}
	for i := 0; i < len(pairs); i += 2 {
		c.Args = append(c.Args, api.Arg{Name: pairs[i], Value: pairs[i+1]})
	}
	return string(http.Ask("POST", "/ctl/ipc", []api.Field{{Name: "HOST", Value: "a"}, {Name: "SOAPACTION", Value: `"` + igd.Service + "#" + action + `"`}}, must(soap.Encode(c))))
}

// adds gives the request for a mapping of a host.
func adds(host api.Addr, proto string, ext, to int, lease int) string {
	return posts("AddPortMapping", "NewRemoteHost", "", "NewExternalPort", fmt.Sprint(ext), "NewProtocol", proto, "NewInternalPort", fmt.Sprint(to), "NewInternalClient", inet.Text(host),
		"NewEnabled", "1", "NewPortMappingDescription", "", "NewLeaseDuration", fmt.Sprint(lease))
}

// deletes gives the request that takes one away.
func deletes(proto string, ext int) string {
	return posts("DeletePortMapping", "NewRemoteHost", "", "NewExternalPort", fmt.Sprint(ext), "NewProtocol", proto)
}

// gets gives a GET.
func gets(target string) string { return "GET " + target + " HTTP/1.1\r\nHost: a\r\n\r\n" }

// subscribes gives the request for a subscription that is told of at a host's port.
func subscribes(host api.Addr, port int) string {
	return fmt.Sprintf("SUBSCRIBE /evt/ipc HTTP/1.1\r\nHost: a\r\nNT: upnp:event\r\nCALLBACK: <http://%s:%d/e>\r\nTIMEOUT: Second-1800\r\n\r\n", inet.Text(host), port)
}

// unsubscribes gives the request that ends one.
func unsubscribes(sid string) string {
	return "UNSUBSCRIBE /evt/ipc HTTP/1.1\r\nHost: a\r\nSID: " + sid + "\r\n\r\n"
}

// all gives what is gone through.
func all[T any](over func(func(T) bool)) []T {
	var list []T
	for x := range over {
		list = append(list, x)
	}
	return list
}

// look tells all that a gateway tells of itself.
func look(g *gate.Gate) string {
	return fmt.Sprint(g.Now(), g.Config(), all(g.Maps()), all(g.Sessions()), all(g.Subs()), g.Conns(), g.Update())
}
