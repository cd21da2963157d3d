package gate_test

import (
	"fmt"
	"math/rand"
	"slices"
	"strings"
	"testing"

	"hearth/api"
	"hearth/desk"
	"hearth/gate"
	"hearth/http"
)

// opened gives a gateway with a connection from .7, port 9, whose own number is 99, and whose host's next one is 51.
func opened(t *testing.T, c api.Config) *gate.Gate {
	t.Helper()
	g := begins(t, c)
	g.Step(hello(a7))
	g.Step(drawn(99))
	wants(t, "SYN", says(g, a7, api.Segment{From: 9, To: 5000, Seq: 50, Flags: api.SYN, Window: 8000}),
		fromServer(0, api.Segment{Seq: 99, Ack: 51, Flags: api.SYN | api.ACK, Window: 4096}))
	return g
}

// fromServer is a segment of the server to .7, port 9, in a packet with an ID.
func fromServer(id uint16, s api.Segment) api.Out {
	s.From, s.To = 5000, 9
	return onLan(own(id, tcp(lan, a7, s)))
}

// data lets .7 send data from its port 9.
func data(g *gate.Gate, seq, ack uint32, text string) []api.Out {
	return says(g, a7, api.Segment{From: 9, To: 5000, Seq: seq, Ack: ack, Flags: api.ACK, Window: 8000, Data: []byte(text)})
}

// answered gives what a desk of its own answers to a stream of requests, with draws of 0 alone.
func answered(c api.Config, who api.Addr, text string) string {
	d, p, out := desk.New(c), http.New(), ""
	for _, x := range p.Feed([]byte(text)) {
		b, _ := d.Answer(x, who, 0, [2]uint64{})
		out += string(b)
	}
	return out
}

func TestP26_2Request(t *testing.T) {
	g := opened(t, config())
	want := answered(config(), a7, gets("/x"))
	if g.Conns() != 1 {
		t.Error(g.Conns())
	}
	// What is taken is acknowledged ahead of the answer.
	n := uint32(len(gets("/x")))
	wants(t, "request", data(g, 51, 100, gets("/x")), fromServer(1, api.Segment{Seq: 100, Ack: 51 + n, Flags: api.ACK, Window: uint16(4096 - n)}),
		fromServer(2, api.Segment{Seq: 100, Ack: 51 + n, Flags: api.PSH | api.ACK, Window: 4096, Data: []byte(want)}))
	if !strings.HasPrefix(want, "HTTP/1.1 404 Not Found\r\n") {
		t.Errorf("%q", want)
	}
	wants(t, "acknowledged", data(g, 51+n, 100+uint32(len(want)), ""))
	wants(t, "nothing is sent anew", g.Step(tick(3)), alives(config(), 3)...)
	if g.Conns() != 1 {
		t.Error(g.Conns())
	}
}

// The own number is a draw's last 32 bits.
func TestP26_2Number(t *testing.T) {
	g := begins(t, config())
	g.Step(drawn(1<<63 | 1<<32 | 7))
	out := says(g, a7, api.Segment{From: 9, To: 5000, Seq: 50, Flags: api.SYN, Window: 8000})
	if s := segments(out, 5000, a7, 9); len(s) != 1 || s[0].Seq != 7 {
		t.Error(showAll(out))
	}
}

func TestP26_2Conns(t *testing.T) {
	g := begins(t, config())
	g.Step(hello(a7))
	g.Step(hello(a8))
	syn := func(from uint16) api.Segment { return api.Segment{From: from, To: 5000, Seq: 50, Flags: api.SYN} }
	for i, x := range []struct {
		host api.Addr
		port uint16
		want int
	}{{a7, 9, 1}, {a7, 9, 1}, {a8, 9, 2}, {a7, 10, 3}, {a7, 9, 3}, {a7, 0, 3}, {a8, 10, 3}} {
		out := says(g, x.host, syn(x.port))
		s := segments(out, 5000, x.host, x.port)
		refused := i > 4
		if g.Conns() != x.want || len(s) != 1 || (s[0].Flags == api.RST|api.ACK && s[0].Ack == 51) != refused {
			t.Errorf("%d: %d, %s", i, g.Conns(), showAll(out))
		}
	}
	says(g, a8, api.Segment{From: 9, To: 5000, Seq: 51, Flags: api.RST})
	if g.Conns() != 2 {
		t.Error(g.Conns())
	}
	wants(t, "of none that is there", says(g, a8, api.Segment{From: 9, To: 5000, Seq: 51, Flags: api.RST}))
	if s := segments(says(g, a8, syn(10)), 5000, a8, 10); g.Conns() != 3 || len(s) != 1 || s[0].Flags != api.SYN|api.ACK {
		t.Errorf("%d, %v", g.Conns(), s)
	}
}

// One host's bytes play no part in another one's connection, nor in another one of its own.
func TestP26_2Apart(t *testing.T) {
	g := begins(t, config())
	one, two, three := dials(g, a7, 9), dials(g, a7, 10), dials(g, a8, 9)
	text := gets("/desc.xml")
	one.say(text[:10])
	two.say(text[:20])
	three.say(text[:30])
	want := answered(config(), a7, text)
	for i, got := range []string{three.say(text[30:]), one.say(text[10:]), two.say(text[20:])} {
		if got != want {
			t.Errorf("%d: %q, not %q", i, got, want)
		}
	}
}

// requests gives some that may stand behind one another, with what a Desk answers to all.
func requests() string {
	return gets("/desc.xml") + gets("/x") + "HEAD /ipc.xml HTTP/1.1\r\nHost: a\r\n\r\n" + adds(a7, "TCP", 80, 8080, 60) + adds(a7, "TCP", 80, 8081, 60) +
		adds(a8, "UDP", 80, 8080, 60) + posts("GetExternalIPAddress") + posts("Nothing") + strings.Replace(posts("GetNATRSIPStatus"), "SOAPACTION", "X", 1) + deletes("TCP", 80) + gets("/ipc.xml")
}

// In whatever pieces a stream comes it is answered alike, in order, and all.
func TestP26_2Pieces(t *testing.T) {
	want := answered(config(), a7, requests())
	for _, size := range []int{1, 2, 3, 7, 100, 1000, 1 << 20} {
		g := begins(t, config())
		c := dials(g, a7, 9)
		got := ""
		for text := requests(); text != ""; {
			n := min(size, len(text))
			got += c.say(text[:n])
			text = text[n:]
		}
		if got != want || g.Update() != 2 || g.Conns() != 1 {
			t.Fatalf("by %d: %q, not %q", size, got, want)
		}
	}
}

// What comes twice, late, or ahead of its time is answered once.
func TestP26_2Lossy(t *testing.T) {
	want := answered(config(), a7, requests())
	for seed := range int64(40) {
		r := rand.New(rand.NewSource(seed))
		g := begins(t, config())
		g.Step(hello(a7))
		c := dials(g, a7, 9)
		c.got = ""
		rest := requests()
		var todo []api.Segment
		for n := 0; c.got != want; n++ {
			if n > 20000 || !strings.HasPrefix(want, c.got) {
				t.Fatalf("seed %d: %q, not %q", seed, c.got, want)
			}
			rest = rest[c.Send([]byte(rest[:min(len(rest), r.Intn(900))])):]
			todo = append(todo, c.Flush(g.Now())...)
			if len(todo) == 0 {
				todo = append(todo, c.takes(lose(r, g.Step(tick(1))))...)
				todo = append(todo, c.Tick(g.Now())...)
				continue
			}
			i := r.Intn(len(todo))
			s := todo[i]
			if r.Intn(3) > 0 {
				todo = slices.Delete(todo, i, i+1)
			}
			if r.Intn(5) > 0 {
				todo = append(todo, c.takes(lose(r, says(g, a7, s)))...)
			}
		}
		if g.Update() != 2 {
			t.Errorf("seed %d: %d changes", seed, g.Update())
		}
	}
}

// lose leaves out some of what is sent.
func lose(r *rand.Rand, out []api.Out) []api.Out {
	return slices.DeleteFunc(out, func(api.Out) bool { return r.Intn(6) == 0 })
}

// A request without keep is the last one: behind its answer the connection ends.
func TestP26_2Close(t *testing.T) {
	for name, text := range map[string]string{
		"1.0":    "GET /x HTTP/1.0\r\n\r\n",
		"close":  "GET /x HTTP/1.1\r\nHost: a\r\nConnection: close\r\n\r\n",
		"status": "NONSENSE\r\n\r\n",
		"length": "POST /ctl/ipc HTTP/1.1\r\nHost: a\r\n\r\n",
	} {
		want := answered(config(), a7, gets("/x")+text)
		g := begins(t, config())
		c := dials(g, a7, 9)
		if got := c.say(gets("/x") + text + adds(a7, "TCP", 80, 8080, 60) + gets("/x")); got != want || !c.Ended() {
			t.Errorf("%s: %q, not %q, %t", name, got, want, c.Ended())
		}
		if got := c.say(adds(a7, "TCP", 80, 8080, 60)); got != "" || g.Update() != 0 || g.Conns() != 1 {
			t.Errorf("%s: %q, %s", name, got, look(g))
		}
		c.Close()
		c.bring(c.Flush(0))
		if g.Conns() != 0 || c.Phase() != api.Over {
			t.Errorf("%s: %d, %d", name, g.Conns(), c.Phase())
		}
	}
}

// Of a request without keep the answer and the FIN come at once, in this order.
func TestP26_2CloseSegments(t *testing.T) {
	g := opened(t, config())
	text := "GET /x HTTP/1.0\r\n\r\n"
	want := answered(config(), a7, text)
	n := uint32(len(text))
	wants(t, "close", data(g, 51, 100, text), fromServer(1, api.Segment{Seq: 100, Ack: 51 + n, Flags: api.ACK, Window: uint16(4096 - n)}),
		fromServer(2, api.Segment{Seq: 100, Ack: 51 + n, Flags: api.PSH | api.ACK, Window: 4096, Data: []byte(want)}),
		fromServer(3, api.Segment{Seq: 100 + uint32(len(want)), Ack: 51 + n, Flags: api.FIN | api.ACK, Window: 4096}))
	data(g, 51+n, 101+uint32(len(want)), "")
	if g.Conns() != 1 {
		t.Error("the host hasn't ended")
	}
	fin := api.Segment{From: 9, To: 5000, Seq: 51 + n, Ack: 101 + uint32(len(want)), Flags: api.FIN | api.ACK, Window: 8000}
	wants(t, "FIN", says(g, a7, fin), fromServer(4, api.Segment{Seq: 101 + uint32(len(want)), Ack: 52 + n, Flags: api.ACK, Window: 4096}))
	if g.Conns() != 0 {
		t.Error(g.Conns())
	}
}

// A host that ends between requests is answered with an end; in a request it isn't.
func TestP26_2Ended(t *testing.T) {
	for name, x := range map[string]struct {
		text string
		idle bool
	}{
		"nothing": {"", true}, "a request": {gets("/x"), true}, "a line that is passed over": {gets("/x") + "\r\n", true},
		"a beginning": {gets("/x") + "G", false}, "all but the last byte": {strings.TrimSuffix(gets("/x"), "\n"), false},
		"a body": {strings.TrimSuffix(adds(a7, "TCP", 80, 8080, 60), ">"), false},
	} {
		g := begins(t, config())
		c := dials(g, a7, 9)
		c.say(x.text)
		c.Close()
		c.bring(c.Flush(0))
		conns := 1
		if x.idle {
			conns = 0
		}
		if c.Ended() != x.idle || g.Conns() != conns || g.Update() != 0 {
			t.Errorf("%s: %t, %s", name, c.Ended(), look(g))
		}
		g.Step(tick(59))
		if g.Conns() != conns {
			t.Errorf("%s: %d", name, g.Conns())
		}
		g.Step(tick(1))
		if g.Conns() != 0 {
			t.Errorf("%s: %d", name, g.Conns())
		}
	}
}

// The requests that come with the FIN are answered ahead of the end.
func TestP26_2EndedAtOnce(t *testing.T) {
	g := begins(t, config())
	c := dials(g, a7, 9)
	c.Send([]byte(gets("/desc.xml") + gets("/ipc.xml")))
	c.Close()
	c.bring(c.Flush(0))
	if want := answered(config(), a7, gets("/desc.xml")+gets("/ipc.xml")); c.got != want || g.Conns() != 0 {
		t.Errorf("%q, not %q", c.got, want)
	}
}

// A connection of which nothing has come for 60 seconds is cut off.
func TestP26_2Still(t *testing.T) {
	cut := api.Segment{Flags: api.RST | api.ACK}
	for name, x := range map[string]api.Segment{
		"data":    {Seq: 51, Ack: 100, Flags: api.ACK, Data: []byte("G")},
		"ACK":     {Seq: 51, Ack: 100, Flags: api.ACK},
		"nothing": {Seq: 9999, Ack: 9999},
		"SYN":     {Seq: 9, Flags: api.SYN},
	} {
		g := opened(t, config())
		g.Step(tick(0))
		data(g, 51, 100, "")
		g.Step(tick(40))
		x.From, x.To = 9, 5000
		id := uint16(7 + len(says(g, a7, x)))
		wants(t, name+" by 59", g.Step(tick(59)))
		if g.Conns() != 1 {
			t.Error(name, g.Conns())
		}
		wants(t, name+" by 60", g.Step(tick(1)), fromServer(id, cut))
		if g.Conns() != 0 {
			t.Error(name, g.Conns())
		}
	}
	g := opened(t, config())
	g.Step(tick(0))
	wants(t, "one that was never open", g.Step(tick(60)), fromServer(7, cut))
	g = opened(t, config())
	g.Step(tick(0))
	wants(t, "late", g.Step(tick(1<<32)), append([]api.Out{asks(a7)}, alives(config(), 8)...)...)
	if g.Conns() != 0 {
		t.Error(g.Conns())
	}
}

// What isn't acknowledged is sent anew, and of all connections by host and port.
func TestP26_2Anew(t *testing.T) {
	g := begins(t, config())
	g.Step(tick(0))
	for _, a := range []api.Addr{a8, a7} {
		g.Step(hello(a))
	}
	answer := func(id uint16, host api.Addr, port uint16, number uint32) api.Out {
		return onLan(own(id, tcp(lan, host, api.Segment{From: 5000, To: port, Seq: number, Ack: 51, Flags: api.SYN | api.ACK, Window: 4096})))
	}
	for i, x := range []struct {
		host api.Addr
		port uint16
	}{{a8, 9}, {a7, 30000}, {a7, 9}} {
		g.Step(drawn(uint64(i)))
		wants(t, "SYN", says(g, x.host, api.Segment{From: x.port, To: 5000, Seq: 50, Flags: api.SYN}), answer(6+uint16(i), x.host, x.port, uint32(i)))
	}
	wants(t, "2", g.Step(tick(2)))
	wants(t, "3", g.Step(tick(1)), answer(9, a7, 9, 2), answer(10, a7, 30000, 1), answer(11, a8, 9, 0))
	wants(t, "8", g.Step(tick(5)))
	wants(t, "9", g.Step(tick(1)), answer(12, a7, 9, 2), answer(13, a7, 30000, 1), answer(14, a8, 9, 0))
}

// Behind what is sent anew goes all that the window lets.
func TestP26_2AnewData(t *testing.T) {
	g := opened(t, config())
	g.Step(tick(0))
	text := gets("/desc.xml") + gets("/ipc.xml")
	size := len(answered(config(), a7, text))
	out := data(g, 51, 100, text)
	its := segments(out, 5000, a7, 9)
	if len(its) != 1+(size+999)/1000 || len(its) < 3 {
		t.Fatal(showAll(out))
	}
	wants(t, "anew", g.Step(tick(3)), shifted(out[1:], 7+uint16(len(its)))...)
}

// shifted gives segments of the server in packets whose IDs begin with another one.
func shifted(out []api.Out, id uint16) []api.Out {
	var list []api.Out
	for i, s := range segments(out, 5000, a7, 9) {
		list = append(list, fromServer(id+uint16(i), s))
	}
	return list
}

// One that isn't answered any more is given up, even if something comes of it.
func TestP26_2GivenUp(t *testing.T) {
	g := opened(t, config())
	g.Step(tick(0))
	id, sent := uint16(7), 0
	for second := 1; second <= 189; second++ {
		if second%30 == 0 {
			wants(t, "nothing", says(g, a7, api.Segment{From: 9, To: 5000, Seq: 51}))
		}
		out := g.Step(tick(1))
		switch second {
		case 3, 9, 21, 45, 93:
			wants(t, fmt.Sprint(second), out, fromServer(id, api.Segment{Seq: 99, Ack: 51, Flags: api.SYN | api.ACK, Window: 4096}))
			id++
			sent++
		case 189:
			wants(t, "given up", out, fromServer(id, api.Segment{Seq: 100, Ack: 51, Flags: api.RST | api.ACK, Window: 4096}))
		default:
			wants(t, fmt.Sprint(second), out)
		}
		if g.Conns() != 1 && second < 189 {
			t.Fatal(second)
		}
	}
	if g.Conns() != 0 || sent != 5 {
		t.Error(g.Conns(), sent)
	}
}

// sized gives requests that are answered with so many bytes in all.
func sized(t *testing.T, size int) string {
	t.Helper()
	parts := []string{gets("/ipc.xml"), gets("/x"), gets("/ctl/ipc")}
	var sizes []int
	for _, p := range parts {
		sizes = append(sizes, len(answered(config(), a7, p)))
	}
	for b := 0; b*sizes[1] <= size; b++ {
		for c := 0; b*sizes[1]+c*sizes[2] <= size; c++ {
			if left := size - b*sizes[1] - c*sizes[2]; left%sizes[0] == 0 {
				return strings.Repeat(parts[1], b) + strings.Repeat(parts[2], c) + strings.Repeat(parts[0], left/sizes[0])
			}
		}
	}
	t.Fatal(size)
	return ""
}

// More than 32768 bytes may not wait, beside the 8192 that the stream has room for.
func TestP26_2Pending(t *testing.T) {
	for _, x := range []struct {
		size int
		cut  bool
	}{{40959, false}, {40960, false}, {40961, true}, {41000, true}, {50000, true}} {
		g := opened(t, config())
		text := sized(t, x.size)
		if n := len(answered(config(), a7, text)); n != x.size {
			t.Fatal(n)
		}
		seq, last := uint32(51), []api.Out{}
		for text != "" {
			n := min(len(text), 1400)
			last = says(g, a7, api.Segment{From: 9, To: 5000, Seq: seq, Ack: 100, Flags: api.ACK, Data: []byte(text[:n])})
			seq, text = seq+uint32(n), text[n:]
			if text != "" && g.Conns() != 1 {
				t.Fatal(x.size, "ahead of the end")
			}
		}
		its := segments(last, 5000, a7, 9)
		end := its[len(its)-1]
		broken := end.Flags == api.RST|api.ACK && end.Seq == 0 && end.Ack == 0 && end.Window == 0
		if broken != x.cut || (g.Conns() == 0) != x.cut {
			t.Errorf("%d: %s", x.size, showAll(last))
		}
		if x.cut && len(its) != 2 {
			t.Errorf("%d: behind the end, %s", x.size, showAll(last))
		}
	}
}

// Behind the end of one of which too much waits nothing more is sent, even if the host has room for it.
func TestP26_2PendingEnd(t *testing.T) {
	g := opened(t, config())
	text := strings.Repeat("GET /ipc.xml HTTP/1.1\r\nHost:\r\n\r\n", 45)
	if n := len(answered(config(), a7, text)); n <= 40960 || len(text) != 1440 {
		t.Fatal(n, len(text))
	}
	out := says(g, a7, api.Segment{From: 9, To: 5000, Seq: 51, Ack: 100, Flags: api.ACK, Window: 65535, Data: []byte(text)})
	wants(t, "too much", out, fromServer(1, api.Segment{Seq: 100, Ack: 51 + 1440, Flags: api.ACK, Window: 4096 - 1440}), fromServer(2, api.Segment{Flags: api.RST | api.ACK}))
	if g.Conns() != 0 {
		t.Error(g.Conns())
	}
}

// What waits goes out, in order, as the host takes it; then the end, if there is one.
func TestP26_2PendingGoes(t *testing.T) {
	for _, end := range []string{"", "GET /desc.xml HTTP/1.0\r\n\r\n"} {
		g := opened(t, config())
		text := sized(t, 36000) + end
		want := answered(config(), a7, text)
		seq, got, fin := uint32(51), "", false
		take := func(out []api.Out) {
			for _, s := range segments(out, 5000, a7, 9) {
				if s.Seq == 100+uint32(len(got)) {
					got += string(s.Data)
					fin = s.Flags&api.FIN != 0
				}
			}
		}
		for text != "" {
			n := min(len(text), 1400)
			take(says(g, a7, api.Segment{From: 9, To: 5000, Seq: seq, Ack: 100, Flags: api.ACK, Data: []byte(text[:n])}))
			seq, text = seq+uint32(n), text[n:]
		}
		for range 100 {
			take(says(g, a7, api.Segment{From: 9, To: 5000, Seq: seq, Ack: 100 + uint32(len(got)), Flags: api.ACK, Window: 1500}))
		}
		if got != want || fin != (end != "") {
			t.Errorf("%d bytes, not %d, %t", len(got), len(want), fin)
		}
	}
}

// The mappings that a request leaves hold at once.
func TestP26_5Rules(t *testing.T) {
	g := begins(t, config())
	c := dials(g, a7, 9)
	in := fromWan(udp(far, wan, 1, 8080, "x"))
	goes := onLan(less(udp(far, a7, 1, 80, "x")))
	wants(t, "none yet", g.Step(in))
	c.say(adds(a7, "UDP", 8080, 80, 0))
	wants(t, "added", g.Step(in), goes)
	c.say(adds(a7, "UDP", 8081, 81, 0) + deletes("UDP", 8080))
	wants(t, "deleted", g.Step(in))
	wants(t, "the other one", g.Step(fromWan(udp(far, wan, 1, 8081, "x"))), onLan(less(udp(far, a7, 1, 81, "x"))))
	c.say(posts("AddPortMapping", "NewRemoteHost", "", "NewExternalPort", "8081", "NewProtocol", "UDP", "NewInternalPort", "81", "NewInternalClient", "192.168.1.7", "NewEnabled", "0",
		"NewPortMappingDescription", "", "NewLeaseDuration", "0"))
	wants(t, "not enabled", g.Step(fromWan(udp(far, wan, 1, 8081, "x"))))
	if len(all(g.Maps())) != 1 {
		t.Error(all(g.Maps()))
	}
	c.say(posts("AddPortMapping", "NewRemoteHost", "8.8.8.8", "NewExternalPort", "8082", "NewProtocol", "UDP", "NewInternalPort", "82", "NewInternalClient", "192.168.1.7", "NewEnabled", "1",
		"NewPortMappingDescription", "", "NewLeaseDuration", "0"))
	wants(t, "of one sender", g.Step(fromWan(udp(far, wan, 1, 8082, "x"))), onLan(less(udp(far, a7, 1, 82, "x"))))
	wants(t, "of another one", g.Step(fromWan(udp(near, wan, 1, 8082, "x"))))
}

// Who asks is who the packet is from; whose a mapping is changes it, and nobody else.
func TestP26_5Hosts(t *testing.T) {
	g := begins(t, config())
	seven, eight := dials(g, a7, 9), dials(g, a8, 9)
	fault := func(name, got, code string) {
		t.Helper()
		if !strings.HasPrefix(got, "HTTP/1.1 500 ") || !strings.Contains(got, ">"+code+"<") {
			t.Errorf("%s: %q", name, got)
		}
	}
	if got := seven.say(adds(a7, "TCP", 80, 8080, 0)); !strings.HasPrefix(got, "HTTP/1.1 200 ") {
		t.Error(got)
	}
	fault("another's port", eight.say(adds(a8, "TCP", 80, 8080, 0)), "718")
	fault("for another", eight.say(adds(a7, "TCP", 80, 8080, 0)), "606")
	fault("another's mapping", eight.say(deletes("TCP", 80)), "606")
	want := api.Entry{Mapping: api.Mapping{Proto: api.TCP, Ext: 80, To: 8080, Host: a7}, Enabled: true, Ends: 604800}
	if got := all(g.Maps()); len(got) != 1 || got[0] != want || g.Update() != 1 {
		t.Error(got)
	}
	g.Step(tick(100))
	seven = dials(g, a7, 9)
	seven.say(adds(a7, "TCP", 80, 8080, 604800))
	want.Ends += 100
	if got := all(g.Maps()); len(got) != 1 || got[0] != want || g.Update() != 2 {
		t.Error(got)
	}
	fault("too long", seven.say(adds(a7, "TCP", 81, 8080, 604801)), "402")
	for ext := 81; ext < 84; ext++ {
		seven.say(adds(a7, "TCP", ext, 8080, 0))
	}
	fault("too many", seven.say(adds(a7, "TCP", 84, 8080, 0)), "728")
	if got := all(g.Maps()); len(got) != 4 {
		t.Error(got)
	}
	g.Step(tick(604799))
	if got := all(g.Maps()); len(got) != 4 {
		t.Error(got)
	}
	g.Step(tick(1))
	if got := all(g.Maps()); len(got) != 0 || g.Update() != 6 {
		t.Error(got, g.Update())
	}
}

// Requests that aren't right change nothing.
func TestP26_2Wrong(t *testing.T) {
	g := begins(t, config())
	asked(g, a7, 9, adds(a7, "TCP", 80, 8080, 0))
	was := look(g)
	right := adds(a7, "TCP", 81, 8080, 0)
	length := fmt.Sprint("CONTENT-LENGTH: ", len(right)-strings.Index(right, "\r\n\r\n")-4, "\r\n")
	for name, x := range map[string]struct{ text, status string }{
		"length":  {strings.Replace(right, length, "", 1), "411"},
		"DTD":     {strings.Replace(strings.Replace(right, length, fmt.Sprint("CONTENT-LENGTH: ", len(right)-strings.Index(right, "\r\n\r\n")+9, "\r\n"), 1), "\r\n\r\n<", "\r\n\r\n<!DOCTYPE x>\n<", 1), "400"},
		"host":    {strings.Replace(right, "HOST: a\r\n", "", 1), "400"},
		"type":    {strings.Replace(right, "HOST: a\r\n", "HOST: a\r\nContent-Type: text/plain\r\n", 1), "415"},
		"action":  {strings.Replace(right, "#AddPortMapping", "#DeletePortMapping", 1), "400"},
		"target":  {strings.Replace(right, "/ctl/ipc", "/ctl", 1), "404"},
		"method":  {strings.Replace(right, "/ctl/ipc", "/desc.xml", 1), "405"},
		"size":    {strings.Replace(right, length, "CONTENT-LENGTH: 8193\r\n", 1), "413"},
		"pieces":  {strings.Replace(right, length, "TRANSFER-ENCODING: gzip\r\n", 1), "501"},
		"no port": {adds(a7, "TCP", 0, 8080, 0), "500"},
	} {
		c := dials(g, a7, 10)
		if got := c.say(x.text); !strings.HasPrefix(got, "HTTP/1.1 "+x.status+" ") {
			t.Errorf("%s: %q", name, got)
		}
		c.Close()
		c.bring(c.Flush(0))
		if look(g) != was {
			t.Errorf("%s: %s, not %s", name, look(g), was)
		}
	}
}

// A mapping that a request in a thousand pieces asks for, as the document has it.
func TestP26_2ThousandPieces(t *testing.T) {
	g := begins(t, config())
	c := dials(g, a7, 9)
	text := adds(a7, "TCP", 80, 8080, 0)
	body := strings.Index(text, "\r\n\r\n") + 4
	chunked := text[:strings.Index(text, "CONTENT-LENGTH")] + "TRANSFER-ENCODING: chunked\r\n\r\n"
	for _, b := range text[body:] {
		chunked += "1\r\n" + string(b) + "\r\n"
	}
	got := ""
	for _, b := range chunked + "0\r\n\r\n" {
		got += c.say(string(b))
	}
	if len(chunked) < 1000 || got != answered(config(), a7, text) || g.Update() != 1 {
		t.Errorf("%q", got)
	}
}
