package gate_test

import (
	"fmt"
	"maps"
	"math/rand"
	"slices"
	"strings"
	"testing"

	"hearth/api"
	"hearth/desk"
	"hearth/gate"
	"hearth/gena"
	"hearth/inet"
	"hearth/stream"
	"hearth/trans"
)

// subscriber is a host's side of a telling.
type subscriber struct {
	*stream.Conn
	g    *gate.Gate
	host api.Addr
	port uint16
	own  uint16 // the gateway's port
	got  string
}

// hears gives the subscriber's side of a telling that has begun in what was sent, nil if none has.
func hears(g *gate.Gate, out []api.Out, host api.Addr, port, own uint16) *subscriber {
	for _, s := range segments(out, own, host, port) {
		if s.Flags == api.SYN {
			side, todo := stream.Accept(s, 7000, g.Now())
			x := &subscriber{Conn: side, g: g, host: host, port: port, own: own}
			x.bring(todo)
			return x
		}
	}
	return nil
}

// bring brings segments to the gateway, and what it sends back, till nothing is sent any more.
func (x *subscriber) bring(todo []api.Segment) {
	for len(todo) > 0 {
		for _, s := range segments(says(x.g, x.host, todo[0]), x.own, x.host, x.port) {
			todo = append(todo, x.Take(s, x.g.Now())...)
			x.got += string(x.Read())
		}
		todo = todo[1:]
	}
}

// answer answers with a text.
func (x *subscriber) answer(text string) {
	x.Send([]byte(text))
	x.bring(x.Flush(x.g.Now()))
}

// end ends the subscriber's side.
func (x *subscriber) end() {
	x.Close()
	x.bring(x.Flush(x.g.Now()))
}

const fine = "HTTP/1.1 200 OK\r\n\r\n"

// variables gives those of which subscribers are told.
func variables(address string, update, size int) []api.Arg {
	return []api.Arg{
		{Name: "PossibleConnectionTypes", Value: "IP_Routed"}, {Name: "ConnectionStatus", Value: "Connected"}, {Name: "ExternalIPAddress", Value: address},
		{Name: "SystemUpdateID", Value: fmt.Sprint(update)}, {Name: "PortMappingNumberOfEntries", Value: fmt.Sprint(size)},
	}
}

// told gives the request by which a host is told of variables.
func told(sid string, seq int, host api.Addr, port uint16, vars ...api.Arg) string {
	return string(desk.Tell(api.Note{SID: sid, Seq: uint32(seq), Host: host, Port: port, Target: "/e", Body: gena.Body(vars)}))
}

// subscribed gives a gateway with a subscription of .7, port 80, and its side of the telling that has begun; all draws are noughts up to then, but for the telling's.
func subscribed(t *testing.T) (*gate.Gate, *subscriber) {
	t.Helper()
	g := begins(t, config())
	for _, a := range []api.Addr{a7, a8, a9} {
		g.Step(hello(a))
	}
	for range 3 {
		g.Step(drawn(0))
	}
	g.Step(drawn(5<<32 | 77))
	c := dials(g, a7, 9)
	c.rest = nil
	if got := c.say(subscribes(a7, 80)); !strings.HasPrefix(got, "HTTP/1.1 200 OK\r\n") {
		t.Fatal(got)
	}
	syn := api.Segment{From: 40000, To: 80, Seq: 77, Flags: api.SYN, Window: 4096}
	if s := segments(c.rest, 40000, a7, 80); fmt.Sprint(s) != fmt.Sprint([]api.Segment{syn}) {
		t.Fatal(showAll(c.rest))
	}
	x := hears(g, c.rest, a7, 80, 40000)
	c.Close()
	c.bring(c.Flush(0))
	g.Step(tick(0))
	return g, x
}

const sid0 = "uuid:00000000-0000-0000-0000-000000000000"

// The first note tells of all.
func TestP26_6First(t *testing.T) {
	g, x := subscribed(t)
	if want := told(sid0, 0, a7, 80, variables("203.0.113.5", 0, 0)...); x.got != want || x.Ended() {
		t.Errorf("%q, not %q, %t", x.got, want, x.Ended())
	}
	x.answer("HTTP/1.1 20")
	if x.Ended() {
		t.Error("ended by a part of a status")
	}
	x.answer("0 OK\r\n")
	if !x.Ended() || len(all(g.Subs())) != 1 {
		t.Error(look(g))
	}
	x.end()
	if x.Phase() != api.Over {
		t.Error(x.Phase())
	}
	id := nextID(t, g)
	wants(t, "the telling is gone", says(g, a7, api.Segment{From: 80, To: 40000, Seq: 1, Flags: api.PSH}),
		onLan(own(id, tcp(lan, a7, api.Segment{From: 40000, To: 80, Ack: 1, Flags: api.RST | api.ACK}))))
	wants(t, "nothing more", g.Step(tick(31)))
}

// A change is told of from the second behind the last note on, and of what has changed alone.
func TestP26_6Next(t *testing.T) {
	g, x := subscribed(t)
	x.answer(fine)
	x.end()
	c := dials(g, a8, 9)
	c.rest = nil
	c.say(adds(a8, "TCP", 80, 8080, 20))
	c.say(adds(a8, "TCP", 81, 8080, 21))
	if len(c.rest) != 0 {
		t.Error(showAll(c.rest))
	}
	g.Step(drawn(9))
	x = hears(g, g.Step(tick(1)), a7, 80, 40001)
	if x == nil {
		t.Fatal("not told")
	}
	if want := told(sid0, 1, a7, 80, variables("", 2, 2)[3:]...); x.got != want {
		t.Errorf("%q, not %q", x.got, want)
	}
	x.answer(fine)
	g.Step(tick(10))
	wants(t, "nothing more", g.Step(tick(0)))
	// What ends is told of at once, and of both that have ended by then in one.
	out := g.Step(tick(9))
	x = hears(g, out, a7, 80, 40002)
	if x == nil {
		t.Fatal(showAll(out))
	}
	if want := told(sid0, 2, a7, 80, variables("", 3, 1)[3:]...); x.got != want {
		t.Errorf("%q, not %q", x.got, want)
	}
	g.Step(tick(1))
	x.answer(fine)
	out = g.Step(tick(1))
	x = hears(g, out, a7, 80, 40003)
	if x == nil {
		t.Fatal(showAll(out))
	}
	if want := told(sid0, 3, a7, 80, variables("", 4, 0)[3:]...); x.got != want {
		t.Errorf("%q, not %q", x.got, want)
	}
}

// A note is behind all else that an event sends.
func TestP26_6Behind(t *testing.T) {
	g, x := subscribed(t)
	x.answer(fine)
	x.end()
	g.Step(tick(1))
	c := dials(g, a8, 9)
	c.say(adds(a8, "TCP", 80, 8080, 899))
	hears(g, c.rest, a7, 80, 40001).answer(fine)
	g.Step(tick(299))
	for range 2 {
		g.Step(hello(a7))
		g.Step(tick(299))
	}
	g.Step(hello(a7))
	g.Step(drawn(5))
	out := g.Step(tick(2))
	if len(out) != 7 {
		t.Fatal(showAll(out))
	}
	if s := segments(out[6:], 40002, a7, 80); len(s) != 1 || s[0].Seq != 5 {
		t.Error(showAll(out))
	}
}

// By its status a subscriber has taken a note, or is gone.
func TestP26_6Statuses(t *testing.T) {
	for text, stays := range map[string]bool{
		"HTTP/1.1 200 OK\r\n": true, "HTTP/1.0 200\r\n": true, "HTTP/1.1 299 x\r\n": true, "HTTP/1.1 204\r\nx: y\r\n\r\nmore": true,
		"HTTP/1.1 199 x\r\n": false, "HTTP/1.1 300 x\r\n": false, "HTTP/1.1 100 Continue\r\n\r\nHTTP/1.1 200 OK\r\n": false, "HTTP/1.1 412 x\r\n": false, "HTTP/1.1 503\r\n": false, "HTTP/1.1 999\r\n": false,
		"HTTP/1.1 200 OK\n": false, "\r\n": false, "HTTP/2.0 200 OK\r\n": false, "HTTP/1.1 2000\r\n": false, "HTTP/1.1 020\r\n": false, "HTTP/1.1 20\r\n": false, "nonsense\r\n": false,
		strings.Repeat("x", 257): false, "HTTP/1.1 200 " + strings.Repeat("x", 241) + "\r\n": true, "HTTP/1.1 200 " + strings.Repeat("x", 242) + "\r\n": false,
		strings.Repeat("x", 600): false, "HTTP/1.1 200 OK\r\n" + strings.Repeat("x", 600): true,
	} {
		for _, size := range []int{1, 1000} {
			g, x := subscribed(t)
			for rest := text; rest != ""; {
				n := min(size, len(rest))
				x.answer(rest[:n])
				rest = rest[n:]
			}
			if (len(all(g.Subs())) == 1) != stays || !x.Ended() {
				t.Errorf("%.60q by %d: %v, %t", text, size, all(g.Subs()), x.Ended())
			}
		}
	}
}

// As long as its status may still come a subscriber isn't gone.
func TestP26_6Waits(t *testing.T) {
	for _, text := range []string{"", "x", "HTTP/1.1 200 OK\r", strings.Repeat("x", 256)} {
		g, x := subscribed(t)
		x.answer(text)
		if len(all(g.Subs())) != 1 || x.Ended() {
			t.Errorf("%.20q: %v", text, all(g.Subs()))
		}
		x.end()
		if len(all(g.Subs())) != 0 || x.Phase() != api.Over {
			t.Errorf("%.20q, at its end: %v", text, all(g.Subs()))
		}
	}
	// A status with the end.
	g, x := subscribed(t)
	x.Send([]byte(fine))
	x.end()
	if len(all(g.Subs())) != 1 || x.Phase() != api.Over {
		t.Errorf("%v", all(g.Subs()))
	}
}

// A subscriber who doesn't want the connection, or breaks it, is gone.
func TestP26_6Reset(t *testing.T) {
	g := begins(t, config())
	g.Step(hello(a7))
	g.Step(hello(a8))
	for range 4 {
		g.Step(drawn(0))
	}
	asked(g, a7, 9, subscribes(a7, 80))
	wants(t, "another port", says(g, a7, api.Segment{From: 81, To: 40000, Ack: 1, Flags: api.RST | api.ACK}))
	wants(t, "another Ack", says(g, a7, api.Segment{From: 80, To: 40000, Ack: 2, Flags: api.RST | api.ACK}))
	wants(t, "another host", says(g, a8, api.Segment{From: 80, To: 40000, Ack: 1, Flags: api.RST | api.ACK}))
	if len(all(g.Subs())) != 1 {
		t.Error(look(g))
	}
	wants(t, "refused", says(g, a7, api.Segment{From: 80, To: 40000, Ack: 1, Flags: api.RST | api.ACK}))
	if len(all(g.Subs())) != 0 {
		t.Error(look(g))
	}
	id := nextID(t, g)
	wants(t, "gone", g.Step(tick(30)), alives(config(), id)...)

	g, x := subscribed(t)
	says(g, a7, api.Segment{From: 80, To: 40000, Seq: 7001, Flags: api.RST})
	if len(all(g.Subs())) != 0 {
		t.Error(look(g))
	}
	if s := segments(says(g, a7, api.Segment{From: 80, To: 40000, Seq: 7001, Ack: 3, Flags: api.ACK}), 40000, a7, 80); len(s) != 1 || s[0].Flags != api.RST || x.Phase() != api.Open {
		t.Error(s)
	}
}

// What comes to a telling's port from elsewhere is refused, and plays no part.
func TestP26_6Apart(t *testing.T) {
	g, x := subscribed(t)
	s := api.Segment{From: 80, To: 40000, Seq: 7001, Ack: 1, Flags: api.ACK, Data: []byte("HTTP/1.1 500\r\n")}
	for _, host := range []api.Addr{a7, a8} {
		s.From = 80
		if host == a7 {
			s.From = 81
		}
		p := packetOf(t, "refused", says(g, host, s))
		want := own(p.ID, tcp(lan, host, api.Segment{From: 40000, To: s.From, Seq: 1, Flags: api.RST}))
		if fmt.Sprint(p) != fmt.Sprint(want) {
			t.Errorf("%v, not %v", p, want)
		}
	}
	x.answer(fine)
	if len(all(g.Subs())) != 1 {
		t.Error(look(g))
	}
}

// Behind 30 seconds a telling is cut off, whether it is done or not.
func TestP26_6Late(t *testing.T) {
	for _, text := range []string{"", "HTTP/1.1 2", fine} {
		g, x := subscribed(t)
		x.answer(text)
		g.Step(tick(29))
		if len(all(g.Subs())) != 1 {
			t.Error(look(g))
		}
		id := nextID(t, g)
		wants(t, "30", g.Step(tick(1)), onLan(own(id, tcp(lan, a7, api.Segment{From: 40000, To: 80, Flags: api.RST | api.ACK}))))
		stays := 0
		if text == fine {
			stays = 1
		}
		if len(all(g.Subs())) != stays {
			t.Errorf("%q: %s", text, look(g))
		}
		wants(t, "31", g.Step(tick(1)))
	}
	g, _ := subscribed(t)
	id := nextID(t, g)
	wants(t, "late", g.Step(tick(1000)), append([]api.Out{asks(a7)}, alives(config(), id+1)...)...)
	if len(all(g.Subs())) != 0 {
		t.Error(look(g))
	}
}

// A subscriber who isn't there is asked for anew, till it is gone.
func TestP26_6Anew(t *testing.T) {
	g := begins(t, config())
	g.Step(tick(0))
	asked(g, a7, 9, subscribes(a7, 80))
	syn := func() []api.Segment {
		out := g.Step(tick(1))
		if s := segments(out, 40000, a7, 80); len(s) == len(out) {
			return s
		}
		t.Fatal(showAll(out))
		return nil
	}
	for second := 1; second < 30; second++ {
		s := syn()
		if sent := second == 3 || second == 9 || second == 21; len(s) == 1 != sent || sent && s[0].Flags != api.SYN {
			t.Errorf("%d: %v", second, s)
		}
	}
	if s := syn(); len(s) != 1 || s[0].Flags != api.RST|api.ACK || len(all(g.Subs())) != 0 {
		t.Errorf("%v, %s", s, look(g))
	}
}

// Behind a note that is sent anew goes the end, if that was sent, too.
func TestP26_6AnewData(t *testing.T) {
	g := begins(t, config())
	g.Step(tick(0))
	g.Step(hello(a7))
	g.Step(hello(a8))
	for range 3 {
		g.Step(drawn(0))
	}
	g.Step(drawn(77))
	asked(g, a7, 9, subscribes(a7, 80))
	says(g, a7, api.Segment{From: 80, To: 40000, Seq: 500, Ack: 78, Flags: api.SYN | api.ACK, Window: 8000})
	says(g, a7, api.Segment{From: 80, To: 40000, Seq: 501, Ack: 78, Flags: api.ACK, Window: 8000, Data: []byte(fine)})
	id, note := nextID(t, g), told(sid0, 0, a7, 80, variables("203.0.113.5", 0, 0)...)
	segment := func(place int, flags byte, data string) api.Segment {
		return api.Segment{From: 40000, To: 80, Seq: 77 + uint32(place), Ack: 501 + uint32(len(fine)), Flags: flags, Window: 4096, Data: []byte(data)}
	}
	wants(t, "anew", g.Step(tick(3)), onLan(own(id, tcp(lan, a7, segment(1, api.PSH|api.ACK, note)))), onLan(own(id+1, tcp(lan, a7, segment(1+len(note), api.FIN|api.ACK, "")))))
}

// Of one that is done nothing is read any more, and there is always room for it.
func TestP26_6Done(t *testing.T) {
	g, x := subscribed(t)
	x.answer("HTTP/1.1 200 OK\r\n")
	for range 20 {
		x.answer("HTTP/1.1 500 x\r\n" + strings.Repeat("x", 984))
	}
	if x.Waits() != 0 || len(all(g.Subs())) != 1 {
		t.Error(x.Waits(), look(g))
	}
	g.Step(tick(7))
	says(g, a7, api.Segment{From: 80, To: 40000, Seq: 7001 + 17 + 20000, Flags: api.RST})
	if len(all(g.Subs())) != 1 {
		t.Error(look(g))
	}
}

// Each telling has a port of its own, and they are gone through by these.
func TestP26_6Ports(t *testing.T) {
	c := config()
	c.MaxSubs = 16
	g := begins(t, c)
	g.Step(tick(0))
	g.Step(hello(a7))
	text := ""
	for i := range 5 {
		text += subscribes(a7, 80+i/2)
	}
	_, out := asked(g, a7, 9, text)
	for i := range uint16(5) {
		if s := segments(out, 40000+i, a7, 80+i/2); len(s) != 1 {
			t.Errorf("%d: %s", i, showAll(out))
		}
	}
	var got []string
	for _, o := range g.Step(tick(3)) {
		for i := range uint16(5) {
			for _, s := range segments([]api.Out{o}, 40000+i, a7, 80+i/2) {
				got = append(got, fmt.Sprint(s.From, " ", s.Flags))
			}
		}
	}
	if !slices.Equal(got, []string{"40000 2", "40001 2", "40002 2", "40003 2", "40004 2"}) {
		t.Error(got)
	}
	hears(g, out, a7, 80, 40001).answer("HTTP/1.1 500\r\n")
	hears(g, out, a7, 81, 40002).answer(fine)
	if subs := all(g.Subs()); len(subs) != 4 {
		t.Error(subs)
	}
}

// begun gives the ports of the tellings that have begun, or begin anew, in what was sent, and their own numbers.
func begun(out []api.Out) (ports []uint16, numbers []uint32) {
	for _, o := range out {
		p, err := inet.Read(o.Data[14:])
		if err != api.OK || p.Proto != api.TCP {
			continue
		}
		if s, err := trans.ReadTCP(p.Src, p.Dst, p.Body); err == api.OK && s.Flags == api.SYN {
			ports, numbers = append(ports, s.From), append(numbers, s.Seq)
		}
	}
	return ports, numbers
}

// saysAlone says a text, and gives what else is sent meanwhile than the answers.
func (c *client) saysAlone(text string) []api.Out {
	c.rest = nil
	c.say(text)
	return c.rest
}

// taken gives a gateway of which all ports of tellings are taken, though no subscription is there; and a client of it.
func taken(t *testing.T) (*gate.Gate, *client) {
	t.Helper()
	c := config()
	c.MaxSubs = 16
	g := begins(t, c)
	g.Step(hello(a7))
	x := dials(g, a7, 9)
	for i := range uint16(625) {
		ports, _ := begun(x.saysAlone(strings.Repeat(subscribes(a7, 80), 16)))
		if len(ports) != 16 || ports[0] != 40000+16*i || ports[15] != 40015+16*i {
			t.Fatal(i, ports)
		}
		text := ""
		for _, sid := range all(g.Subs()) {
			text += unsubscribes(sid)
		}
		x.say(text)
	}
	return g, x
}

// The ports go round, and those that tellings have are passed over; if none is left the subscriber waits.
func TestP26_6PortsRound(t *testing.T) {
	g, x := taken(t)
	if ports, _ := begun(x.saysAlone(strings.Repeat(subscribes(a7, 80), 3))); len(ports) != 0 {
		t.Errorf("%v, though all are taken", ports)
	}
	ports, numbers := begun(g.Step(tick(3)))
	if len(ports) != 10000 || ports[0] != 40000 || ports[9999] != 49999 {
		t.Fatal(len(ports))
	}
	refuse := func(port uint16) []uint16 {
		ports, _ := begun(says(g, a7, api.Segment{From: 80, To: port, Ack: numbers[port-40000] + 1, Flags: api.RST | api.ACK}))
		return ports
	}
	for _, port := range []uint16{45000, 44000, 49999} {
		if got := refuse(port); !slices.Equal(got, []uint16{port}) {
			t.Errorf("%v, not %d", got, port)
		}
	}
	if subs := all(g.Subs()); len(subs) != 3 {
		t.Error(subs)
	}
	// Behind 49999 comes 40000, and what is taken is passed over.
	for _, port := range []uint16{41000, 40500} {
		if got := refuse(port); len(got) != 0 {
			t.Error(got)
		}
	}
	if got, _ := begun(x.saysAlone(subscribes(a7, 80) + subscribes(a7, 80))); !slices.Equal(got, []uint16{40500, 41000}) {
		t.Error(got)
	}
}

// Those that wait for a port are told once the elder tellings are cut off.
func TestP26_6PortsAgain(t *testing.T) {
	g, x := taken(t)
	x.say(subscribes(a7, 80))
	g.Step(hello(a7))
	if ports, _ := begun(g.Step(tick(29))); len(ports) != 10000 {
		t.Error(len(ports))
	}
	if ports, _ := begun(g.Step(tick(1))); !slices.Equal(ports, []uint16{40000}) || len(all(g.Subs())) != 1 {
		t.Error(ports, all(g.Subs()))
	}
}

// By another configuration tellings that aren't done have failed, ahead of all else; others tell of it.
func TestP26_6Conf(t *testing.T) {
	c := config()
	c.MaxSubs = 3
	g := begins(t, c)
	g.Step(hello(a7))
	g.Step(hello(a8))
	_, out := asked(g, a7, 9, subscribes(a7, 80)+subscribes(a7, 81)+subscribes(a7, 82))
	subs := all(g.Subs())
	hears(g, out, a7, 81, 40001).answer(fine)
	hears(g, out, a7, 82, 40002).answer(fine)
	c.WanAddr, c.MaxSubs = near, 2
	g.Step(tick(1))
	for i := range uint64(2) {
		g.Step(drawn(i + 5))
	}
	id := nextID(t, g)
	out = g.Step(becomes(c))
	wants(t, "all is forgotten", out, asks(a7))
	if got := all(g.Subs()); !slices.Equal(got, subs[1:]) {
		t.Errorf("%v, not %v", got, subs[1:])
	}
	syn := func(i uint16) api.Out {
		return onLan(own(id+i, tcp(lan, a7, api.Segment{From: 40003 + i, To: 81 + i, Seq: 5 + uint32(i), Flags: api.SYN, Window: 4096})))
	}
	out = g.Step(hello(a7))
	wants(t, "both are told", out, syn(0), syn(1))
	x := hears(g, out, a7, 82, 40004)
	if want := told(subs[2], 1, a7, 82, variables("198.51.100.1", 0, 0)[2]); x.got != want {
		t.Errorf("%q, not %q", x.got, want)
	}
	// An elder telling's port is nobody's now.
	if s := segments(says(g, a7, api.Segment{From: 81, To: 40001, Seq: 1, Ack: 9, Flags: api.ACK}), 40001, a7, 81); len(s) != 1 || s[0].Flags != api.RST {
		t.Error(s)
	}
}

// A subscription that is ended while it is told leaves its telling, which changes nothing any more.
func TestP26_6Unsubscribed(t *testing.T) {
	g, x := subscribed(t)
	c := dials(g, a7, 9)
	if got := c.say(unsubscribes(sid0)); !strings.HasPrefix(got, "HTTP/1.1 200") {
		t.Error(got)
	}
	x.answer("HTTP/1.1 500\r\n")
	if !x.Ended() || len(all(g.Subs())) != 0 {
		t.Error(look(g))
	}
}

// A subscription that isn't renewed ends; one that is stays.
func TestP26_6Renewed(t *testing.T) {
	renew := "SUBSCRIBE /evt/ipc HTTP/1.1\r\nHost: a\r\nSID: " + sid0 + "\r\nTIMEOUT: Second-60\r\n\r\n"
	g, x := subscribed(t)
	x.answer(fine)
	x.end()
	g.Step(tick(1799))
	if got, _ := asked(g, a7, 9, renew); !strings.HasPrefix(got, "HTTP/1.1 200") {
		t.Error(got)
	}
	g.Step(tick(59))
	if len(all(g.Subs())) != 1 {
		t.Error(look(g))
	}
	g.Step(tick(1))
	if len(all(g.Subs())) != 0 {
		t.Error(look(g))
	}
}

// P26.6: over a line that loses, a subscriber that takes its notes is told of each change in time, in order, and of the last value; or it is gone.
func TestP26_6Line(t *testing.T) {
	notes := 0
	for seed := range int64(40) {
		r := rand.New(rand.NewSource(seed))
		l := &listener{t: t, Rand: r, g: begins(t, config()), sides: map[uint16]*subscriber{}}
		l.g.Step(hello(a7))
		_, out := asked(l.g, a7, 9, subscribes(a7, 80))
		l.run(out)
		for i := range 330 {
			if i < 200 && r.Intn(4) == 0 {
				_, out := asked(l.g, a8, uint16(r.Intn(60000)), adds(a8, "TCP", 80+r.Intn(9), 8080, 20+r.Intn(60)))
				l.run(out)
			}
			l.second()
			if l.late() {
				t.Fatalf("seed %d, second %d: %s was told last, not %d", seed, i, l.update, l.g.Update())
			}
		}
		if len(all(l.g.Subs())) == 1 {
			if want := fmt.Sprint(l.g.Update()); l.update != want {
				t.Fatalf("seed %d: %s, not %s", seed, l.update, want)
			}
			notes += l.seq
		}
	}
	if notes < 200 {
		t.Error(notes)
	}
}

// listener is a subscriber whose line loses a part of what goes there.
type listener struct {
	*rand.Rand
	t      *testing.T
	g      *gate.Gate
	sides  map[uint16]*subscriber
	seq    int    // of the next note
	update string // the value that was told last
	is     uint32 // the value that holds
	since  uint64 // the second from which on it holds
}

// second lets one go by.
func (l *listener) second() {
	l.run(l.g.Step(hello(a7)))
	l.run(l.g.Step(tick(1)))
	for _, port := range slices.Sorted(maps.Keys(l.sides)) {
		l.send(l.sides[port], l.sides[port].Tick(l.g.Now()))
	}
	if l.is != l.g.Update() {
		l.is, l.since = l.g.Update(), l.g.Now()
	}
}

// late tells whether a change wasn't told in twice the time that a telling has, though the subscription is there.
func (l *listener) late() bool {
	return len(all(l.g.Subs())) == 1 && l.update != fmt.Sprint(l.is) && l.g.Now()-l.since > 62
}

// run takes what is sent, and sends back, as far as it isn't lost.
func (l *listener) run(out []api.Out) {
	for _, o := range lose(l.Rand, out) {
		p, err := inet.Read(o.Data[14:])
		if err != api.OK || p.Dst != a7 || p.Proto != api.TCP {
			continue
		}
		if s, err := trans.ReadTCP(p.Src, p.Dst, p.Body); err == api.OK && s.To == 80 {
			l.take(s.From, s)
		}
	}
}

func (l *listener) take(port uint16, s api.Segment) {
	x := l.sides[port]
	if x == nil {
		if s.Flags != api.SYN {
			return
		}
		side, todo := stream.Accept(s, l.Uint32(), l.g.Now())
		x = &subscriber{Conn: side, g: l.g, host: a7, port: 80, own: port}
		l.sides[port] = x
		l.send(x, todo)
		return
	}
	todo := x.Take(s, l.g.Now())
	was := x.got
	x.got += string(x.Read())
	if !strings.HasSuffix(was, "</e:propertyset>") && strings.HasSuffix(x.got, "</e:propertyset>") {
		l.hear(x)
		x.Send([]byte(fine))
		x.Close()
		todo = append(todo, x.Flush(l.g.Now())...)
	}
	l.send(x, todo)
}

// hear takes a whole note.
func (l *listener) hear(x *subscriber) {
	if !strings.Contains(x.got, fmt.Sprint("\r\nSEQ: ", l.seq, "\r\n")) {
		l.t.Errorf("%q, though %d should come", x.got, l.seq)
	}
	l.seq++
	if _, rest, ok := strings.Cut(x.got, "<SystemUpdateID>"); ok {
		l.update, _, _ = strings.Cut(rest, "<")
	}
}

func (l *listener) send(x *subscriber, list []api.Segment) {
	for _, s := range list {
		if l.Intn(6) > 0 {
			l.run(says(l.g, a7, s))
		}
	}
}
