package napt_test

import (
	"bytes"
	"fmt"
	"math"
	"math/rand"
	"slices"
	"testing"

	"hearth/api"
	"hearth/flow"
	"hearth/inet"
	"hearth/napt"
	"hearth/trans"
)

// The signatures that the chapter lists.
var (
	_ func(api.Config) *napt.Nat                                          = napt.New
	_ func(*napt.Nat, ...api.Mapping)                                     = (*napt.Nat).Rules
	_ func(*napt.Nat, api.Packet, uint64, uint64) (api.Packet, api.Errno) = (*napt.Nat).Out
	_ func(*napt.Nat, api.Packet, uint64) (api.Packet, api.Errno)         = (*napt.Nat).In
	_ func(*napt.Nat, uint64)                                             = (*napt.Nat).Expire
	_ func(*napt.Nat) func(func(api.Session) bool)                        = (*napt.Nat).Sessions
	_ func(*napt.Nat) int                                                 = (*napt.Nat).Len
)

const (
	host = 0xc0a80107
	dmz  = 0xc0a80109
	far  = 0x08080808
	own  = 0xcb007105
)

func config(forwards ...api.Forward) api.Config {
	return api.Config{
		LanMAC: api.MAC{2, 0, 0, 0, 0, 1}, WanMAC: api.MAC{2, 0, 0, 0, 1, 1}, HopMAC: api.MAC{2, 0, 0, 0, 1, 2},
		LanAddr: 0xc0a80101, LanBits: 24, WanAddr: own,
		MaxSessions: 100, MaxMaps: 4, MaxConns: 3, MaxSubs: 2,
		Forwards: forwards, UUID: "00000000-1111-2222-3333-444444444444",
	}
}

// withDMZ gives a configuration with a host for all else.
func withDMZ(forwards ...api.Forward) api.Config {
	c := config(forwards...)
	c.DMZ = dmz
	return c
}

// packet gives one whose other fields are others than their zero values.
func packet(src, dst api.Addr, proto byte, body []byte, err api.Errno) api.Packet {
	if err != api.OK {
		panic(err)
	}
	return api.Packet{TTL: 63, Proto: proto, ID: 0x7a7b, Src: src, Dst: dst, Body: body}
}

func datagram(src, dst api.Addr, from, to uint16) api.Packet {
	b, err := trans.WriteUDP(src, dst, api.Datagram{From: from, To: to, Data: []byte("some data of a datagram")})
	return packet(src, dst, api.UDP, b, err)
}

func segment(src, dst api.Addr, from, to uint16, flags byte) api.Packet {
	b, err := trans.WriteTCP(src, dst, api.Segment{From: from, To: to, Seq: 77, Flags: flags, Opts: []byte{2, 4, 5, 180}, Data: []byte("odd")})
	return packet(src, dst, api.TCP, b, err)
}

func message(src, dst api.Addr, m api.Message) api.Packet {
	b, err := trans.WriteICMP(m)
	return packet(src, dst, api.ICMP, b, err)
}

// echo gives a question (kind 8), or an answer (0).
func echo(src, dst api.Addr, kind byte, id uint16) api.Packet {
	return message(src, dst, api.Message{Type: kind, Rest: uint32(id)<<16 | 5, Data: []byte("ping")})
}

// tells gives an error that tells of a packet.
func tells(src, dst api.Addr, p api.Packet) api.Packet {
	b, err := inet.Write(p)
	if err != api.OK {
		panic(err)
	}
	return message(src, dst, api.Message{Type: 3, Code: 1, Data: b[:28]})
}

// samePacket holds packets against one another; bodies without bytes are one with nil ones.
func samePacket(a, b api.Packet) bool { return fmt.Sprint(a) == fmt.Sprint(b) }

// sessions gives all sessions.
func sessions(n *napt.Nat) []api.Session { return slices.Collect(n.Sessions()) }

// of gives the flow of a packet that carries something.
func of(p api.Packet) api.Flow {
	f, _, err := flow.Of(p)
	if err != api.OK {
		panic(err)
	}
	return f
}

// find gives the session of a flow.
func find(t *testing.T, n *napt.Nat, f api.Flow) api.Session {
	t.Helper()
	for s := range n.Sessions() {
		if s.Flow == f {
			return s
		}
	}
	t.Fatalf("no session of %v among %v", f, sessions(n))
	return api.Session{}
}

// goesOut wants p to go out, from Ext.
func goesOut(t *testing.T, n *napt.Nat, p api.Packet, now, draw uint64, ext uint16) api.Packet {
	t.Helper()
	q, err := n.Out(p, now, draw)
	f := of(p)
	f.Src, f.From = own, ext
	want, _ := flow.Rewrite(p, f)
	if err != api.OK || !samePacket(q, want) {
		t.Fatalf("Out of %v: %v, %v, not %v", p, q, err, want)
	}
	return q
}

// goesIn wants p to come in, to a host's port.
func goesIn(t *testing.T, n *napt.Nat, p api.Packet, now uint64, to api.Addr, port uint16) api.Packet {
	t.Helper()
	q, err := n.In(p, now)
	f := of(p)
	f.Dst, f.To = to, port
	want, _ := flow.Rewrite(p, f)
	if err != api.OK || !samePacket(q, want) {
		t.Fatalf("In of %v: %v, %v, not %v", p, q, err, want)
	}
	return q
}

// refused wants an answer to be an error, and nothing to be changed.
func refused(t *testing.T, n *napt.Nat, name string, call func() (api.Packet, api.Errno), want api.Errno) {
	t.Helper()
	before := sessions(n)
	if q, err := call(); err != want || !samePacket(q, api.Packet{}) {
		t.Errorf("%s: %v, %v, not %v", name, q, err, want)
	}
	if after := sessions(n); !slices.Equal(before, after) {
		t.Errorf("%s: %v became %v", name, before, after)
	}
}

func refusedOut(t *testing.T, n *napt.Nat, p api.Packet, now, draw uint64, want api.Errno) {
	t.Helper()
	refused(t, n, fmt.Sprint("Out of ", p), func() (api.Packet, api.Errno) { return n.Out(p, now, draw) }, want)
}

func refusedIn(t *testing.T, n *napt.Nat, p api.Packet, now uint64, want api.Errno) {
	t.Helper()
	refused(t, n, fmt.Sprint("In of ", p), func() (api.Packet, api.Errno) { return n.In(p, now) }, want)
}

// tcp and udp give mappings from any sender.
func tcp(ext uint16, to api.Addr, port uint16) api.Mapping {
	return api.Mapping{Proto: api.TCP, Ext: ext, To: port, Host: to}
}

func udp(ext uint16, to api.Addr, port uint16) api.Mapping {
	return api.Mapping{Proto: api.UDP, Ext: ext, To: port, Host: to}
}

// only lets a mapping hold for one sender.
func only(m api.Mapping, remote api.Addr) api.Mapping {
	m.Remote = remote
	return m
}

func forward(m api.Mapping) api.Forward {
	return api.Forward{Proto: m.Proto, Port: m.Ext, To: m.To, Host: m.Host}
}

func TestP12_1New(t *testing.T) {
	for _, c := range []api.Config{config(), withDMZ(forward(tcp(80, host, 8080)))} {
		n := napt.New(c)
		if n.Len() != 0 || len(sessions(n)) != 0 {
			t.Errorf("New: %d, %v", n.Len(), sessions(n))
		}
	}
	refusedIn(t, napt.New(config()), datagram(far, own, 53, 1024), 0, api.ErrNone)
}

// Each call of Rules lets the mappings that it is given hold, and no others.
func TestP12_1RulesHold(t *testing.T) {
	n := napt.New(config())
	n.Rules(udp(80, host, 8080), tcp(81, host+1, 8081))
	goesIn(t, n, datagram(far, own, 1, 80), 0, host, 8080)
	goesIn(t, n, segment(far, own, 1, 81, api.SYN), 0, host+1, 8081)
	refusedIn(t, n, datagram(far, own, 1, 81), 0, api.ErrNone)
	refusedIn(t, n, segment(far, own, 1, 80, api.SYN), 0, api.ErrNone)
	n.Rules(udp(82, host, 8080))
	refusedIn(t, n, datagram(far, own, 1, 80), 0, api.ErrNone)
	refusedIn(t, n, segment(far, own, 1, 81, api.SYN), 0, api.ErrNone)
	goesIn(t, n, datagram(far, own, 1, 82), 0, host, 8080)
	n.Rules()
	refusedIn(t, n, datagram(far, own, 1, 82), 0, api.ErrNone)
	if n.Len() != 0 {
		t.Errorf("sessions that nothing lets in: %v", sessions(n))
	}
}

// Sessions with the Ext of their end are gone if a rule has that, whatever its sender and host.
func TestP12_1RulesTakeEnds(t *testing.T) {
	for name, c := range map[string]struct {
		m    api.Mapping
		left int
	}{
		"that port":                         {udp(1024, host+1, 7), 2},
		"that port, to that end":            {udp(1024, host, 5000), 2},
		"that port, of another sender":      {only(udp(1024, host+1, 7), far+77), 2},
		"that port, of the session's other": {only(udp(1024, host, 5000), far), 2},
		"another port":                      {udp(1026, host, 5000), 4},
		"another protocol":                  {tcp(1024, host, 5000), 4},
		"that of the other end":             {udp(1025, host, 5000), 3},
		"that of the ICMP end":              {api.Mapping{Proto: api.ICMP, Ext: 1024}, 3},
	} {
		n := napt.New(config())
		goesOut(t, n, datagram(host, far, 5000, 53), 0, 0, 1024)
		goesOut(t, n, datagram(host, far+1, 5000, 53), 0, 0, 1024)
		goesOut(t, n, datagram(host, far, 5001, 53), 0, 0, 1025)
		goesOut(t, n, echo(host, far, 8, 5000), 0, 0, 1024)
		n.Rules(tcp(9, host, 9), c.m)
		for s := range n.Sessions() {
			if s.Flow.Proto == c.m.Proto && s.Ext == c.m.Ext {
				t.Errorf("%s: %v is left", name, s)
			}
		}
		if n.Len() != c.left {
			t.Errorf("%s: %d are left, not %d", name, n.Len(), c.left)
		}
	}
}

// The DMZ's sessions were given the Ext of their end, too, one below 1024 as well.
func TestP12_1RulesTakeDMZ(t *testing.T) {
	n := napt.New(withDMZ())
	goesIn(t, n, datagram(far, own, 1, 80), 0, dmz, 80)
	goesIn(t, n, datagram(far, own, 1, 5000), 0, dmz, 5000)
	n.Rules(tcp(80, dmz, 80))
	if n.Len() != 2 {
		t.Errorf("by another protocol's rule: %v", sessions(n))
	}
	n.Rules(udp(80, dmz, 80))
	if n.Len() != 1 {
		t.Errorf("by a rule of the port 80: %v", sessions(n))
	}
	n.Rules(udp(5000, host, 1))
	if n.Len() != 0 {
		t.Errorf("by a rule of the port 5000: %v", sessions(n))
	}
}

// A session by a rule is gone, unless a rule has its port, goes to its end, and is for its sender.
func TestP12_1RulesKeep(t *testing.T) {
	is := tcp(80, host, 8080)
	other := tcp(81, host, 8080)
	for name, c := range map[string]struct {
		maps  []api.Mapping
		stays bool
	}{
		"none":                              {nil, false},
		"the same":                          {[]api.Mapping{is}, true},
		"of its sender":                     {[]api.Mapping{only(is, far)}, true},
		"of another sender":                 {[]api.Mapping{only(is, far+1)}, false},
		"of both":                           {[]api.Mapping{only(is, far+1), only(is, far)}, true},
		"to another host":                   {[]api.Mapping{tcp(80, host+1, 8080)}, false},
		"to another port":                   {[]api.Mapping{tcp(80, host, 8081)}, false},
		"from another port":                 {[]api.Mapping{other}, false},
		"from both ports":                   {[]api.Mapping{other, is}, true},
		"of another protocol":               {[]api.Mapping{udp(80, host, 8080)}, false},
		"behind one that goes elsewhere":    {[]api.Mapping{tcp(80, host+1, 1), is}, true},
		"behind one that its sender's is":   {[]api.Mapping{only(tcp(80, host+1, 1), far), is}, true},
		"another host's of its sender only": {[]api.Mapping{only(tcp(80, host+1, 1), far)}, false},
	} {
		for _, out := range []bool{false, true} {
			n := napt.New(config())
			n.Rules(is)
			if out {
				goesOut(t, n, segment(host, far, 8080, 1, api.SYN), 5, 0, 80)
			} else {
				goesIn(t, n, segment(far, own, 1, 80, api.SYN), 5, host, 8080)
			}
			before := sessions(n)
			n.Rules(c.maps...)
			if stays := slices.Equal(before, sessions(n)); stays != c.stays || n.Len() == 0 == c.stays {
				t.Errorf("%s: out %t: %v", name, out, sessions(n))
			}
		}
	}
}

// Forwards are rules whatever mappings hold, and they, too, keep a session that a mapping let in.
func TestP12_1RulesForwards(t *testing.T) {
	n := napt.New(config(forward(tcp(80, host, 8080)), forward(udp(80, host, 8080))))
	goesIn(t, n, segment(far, own, 1, 80, api.SYN), 0, host, 8080)
	goesOut(t, n, datagram(host, far, 8080, 1), 0, 0, 80)
	n.Rules(tcp(90, host, 9))
	n.Rules()
	if n.Len() != 2 {
		t.Errorf("sessions by forwards: %v", sessions(n))
	}
	n.Rules(tcp(80, host+1, 7), only(tcp(80, host, 8080), far+1))
	goesIn(t, n, segment(far+2, own, 1, 80, api.SYN), 0, host+1, 7)
	goesIn(t, n, segment(far+1, own, 1, 80, api.SYN), 0, host, 8080)
	if n.Len() != 4 {
		t.Errorf("sessions by mappings too: %v", sessions(n))
	}
	n.Rules()
	if n.Len() != 3 {
		t.Errorf("sessions to the forward's end: %v", sessions(n))
	}
	find(t, n, api.Flow{Proto: api.TCP, Src: host, Dst: far + 1, From: 8080, To: 1})
}

// Ports that rules have aren't picked; those that they have no more are.
func TestP12_1RulesPorts(t *testing.T) {
	n := napt.New(config(forward(udp(1024, host+1, 7))))
	n.Rules(udp(1025, host+1, 8), only(udp(1026, host+1, 9), far), tcp(1027, host+1, 10), udp(1025, host+1, 11))
	goesOut(t, n, datagram(host, far, 1, 1), 0, 0, 1027)
	goesOut(t, n, segment(host, far, 1, 1, api.SYN), 0, 0, 1024)
	goesOut(t, n, echo(host, far, 8, 1), 0, 0, 1024)
	n.Rules(udp(1026, host+1, 9))
	goesOut(t, n, datagram(host, far, 2, 1), 0, 0, 1025)
	goesOut(t, n, datagram(host, far, 3, 1), 0, 0, 1028)
	n.Rules()
	goesOut(t, n, datagram(host, far, 4, 1), 0, 0, 1026)
	goesOut(t, n, datagram(host, far, 5, 1), 0, 0, 1029)
	// What ends have stays taken, whatever the rules become.
	goesOut(t, n, segment(host, far, 2, 1, api.SYN), 0, 0, 1025)
	goesOut(t, n, echo(host, far, 8, 2), 0, 0, 1025)
}

// Where a rule takes an end's port, that is no more the end's behind it.
func TestP12_1RulesEndAnew(t *testing.T) {
	n := napt.New(config())
	goesOut(t, n, datagram(host, far, 5000, 53), 0, 0, 1024)
	goesOut(t, n, datagram(host, far+1, 5000, 53), 0, 0, 1024)
	n.Rules(udp(1024, host+1, 7))
	goesOut(t, n, datagram(host, far, 5000, 53), 0, 0, 1025)
	n.Rules()
	goesOut(t, n, datagram(host, far+1, 5000, 53), 0, 0, 1025)
	goesOut(t, n, datagram(host, far, 5001, 53), 0, 0, 1024)
}

func TestP12_1Order(t *testing.T) {
	n := napt.New(config())
	all := []api.Packet{
		echo(host, far, 8, 7), segment(host, far, 5000, 53, api.SYN), segment(host, far, 5000, 54, api.SYN), segment(host, far+1, 5000, 1, api.SYN),
		segment(host, far, 5001, 1, api.SYN), segment(host+1, far, 1, 1, api.SYN), datagram(1, far, 1, 1), datagram(host, far, 1, 1),
	}
	for _, i := range rand.New(rand.NewSource(1)).Perm(len(all)) {
		if _, err := n.Out(all[i], 0, 0); err != api.OK {
			t.Fatal(err)
		}
	}
	got := sessions(n)
	if len(got) != len(all) || n.Len() != len(all) {
		t.Fatalf("%d sessions, Len %d", len(got), n.Len())
	}
	for i, p := range all {
		if got[i].Flow != of(p) {
			t.Errorf("the session %d is of %v, not of %v", i, got[i].Flow, of(p))
		}
	}
	for most := 1; most <= len(all); most++ {
		told := []api.Session{}
		n.Sessions()(func(s api.Session) bool {
			told = append(told, s)
			return len(told) < most
		})
		if !slices.Equal(told, got[:most]) {
			t.Errorf("ended behind %d: %v", most, told)
		}
	}
}

func TestP12_2LayerTen(t *testing.T) {
	bad := datagram(host, far, 1, 1)
	bad.Body = bytes.Clone(bad.Body)
	bad.Body[9] ^= 1
	for name, c := range map[string]struct {
		p    api.Packet
		want api.Errno
	}{
		"a protocol":   {api.Packet{Proto: 2, Src: host, Dst: own}, api.ErrForm},
		"no body":      {api.Packet{Proto: api.TCP, Src: host, Dst: own}, api.ErrShort},
		"much body":    {api.Packet{Proto: api.UDP, Body: make([]byte, 1481)}, api.ErrLong},
		"a sum":        {bad, api.ErrSum},
		"a message":    {message(host, own, api.Message{Type: 13}), api.ErrForm},
		"an error":     {message(host, own, api.Message{Type: 3, Data: make([]byte, 28)}), api.ErrForm},
		"a ping's way": {message(host, own, api.Message{Type: 8, Code: 1}), api.ErrForm},
	} {
		n := napt.New(withDMZ())
		t.Log(name)
		refusedOut(t, n, c.p, 0, 0, c.want)
		refusedIn(t, n, c.p, 0, c.want)
	}
}

// A segment begins a session, if it begins a connection; behind that each goes.
func TestP12_2Segments(t *testing.T) {
	for flags := range 256 {
		n := napt.New(config())
		p := segment(host, far, 5000, 80, byte(flags))
		if flags&api.SYN == 0 || flags&(api.ACK|api.RST) != 0 {
			refusedOut(t, n, p, 0, 0, api.ErrNone)
			goesOut(t, n, segment(host, far, 5000, 80, api.SYN), 0, 0, 1024)
		}
		goesOut(t, n, p, 0, 0, 1024)
	}
}

// Beyond MaxSessions there is none more; what is there goes on; the error that is named first is told.
func TestP12_2Full(t *testing.T) {
	for _, most := range []int{1, 2, 5} {
		c := config()
		c.MaxSessions = most
		n := napt.New(c)
		for i := range most {
			goesOut(t, n, segment(host, far, 5000, uint16(i), api.SYN), 0, 0, 1024)
		}
		refusedOut(t, n, segment(host, far, 5000, 9, api.SYN), 0, 0, api.ErrFull)
		refusedOut(t, n, datagram(host, far, 5000, 0), 0, 0, api.ErrFull)
		refusedOut(t, n, echo(host, far, 8, 5), 0, 0, api.ErrFull)
		refusedOut(t, n, segment(host, far, 5000, 9, api.ACK), 0, 0, api.ErrNone)
		refusedOut(t, n, echo(host, far, 0, 5), 0, 0, api.ErrNone)
		goesOut(t, n, segment(host, far, 5000, 0, api.ACK), 0, 0, 1024)
		n.Expire(240)
		// What was refused has taken no port.
		goesOut(t, n, datagram(host, far, 5000, 0), 240, 0, 1024)
	}
}

func TestP12_2Query(t *testing.T) {
	n := napt.New(config())
	for _, id := range []uint16{0, 7, 1024, 65535} {
		refusedOut(t, n, echo(host, far, 0, id), 0, 0, api.ErrNone)
	}
	for i, id := range []uint16{0, 7, 1024, 65535} {
		ext := uint16(1024 + i)
		q := goesOut(t, n, echo(host, far, 8, id), 0, 0, ext)
		if f := of(q); f != (api.Flow{Proto: api.ICMP, Src: own, Dst: far, From: ext}) {
			t.Errorf("of the id %d: %v", id, f)
		}
		// An answer isn't a question, though its flow may be that of one.
		refusedOut(t, n, echo(host, far, 0, id), 9, 0, api.ErrNone)
	}
}

// An error goes out, if it tells of what has come in a session, and is from its host; nothing is renewed.
func TestP12_2Errors(t *testing.T) {
	n := napt.New(config(forward(tcp(80, host, 8080))))
	in := []api.Packet{}
	for _, p := range []api.Packet{datagram(host, far, 5000, 53), segment(host, far, 5000, 80, api.SYN)} {
		f := of(goesOut(t, n, p, 3, 0, 1024))
		if p.Proto == api.UDP {
			in = append(in, goesIn(t, n, datagram(far, own, 53, f.From), 3, host, 5000))
		} else {
			in = append(in, goesIn(t, n, segment(far, own, 80, f.From, api.SYN|api.ACK), 3, host, 5000))
		}
	}
	goesOut(t, n, echo(host, far, 8, 7), 3, 0, 1024)
	in = append(in, goesIn(t, n, echo(far, own, 0, 1024), 3, host, 7))
	in = append(in, goesIn(t, n, segment(far, own, 9, 80, api.SYN), 3, host, 8080)) // Of it the host has sent nothing yet.
	for i, ext := range []uint16{1024, 1024, 1024, 80} {
		before := sessions(n)
		e := tells(host, far, in[i])
		q := goesOut(t, n, e, 9, 0, ext)
		if q.Src != own || q.Dst != far {
			t.Errorf("from %v to %v", q.Src, q.Dst)
		}
		if after := sessions(n); !slices.Equal(before, after) {
			t.Errorf("%v became %v", before, after)
		}
		refusedOut(t, n, tells(host+1, far, in[i]), 9, 0, api.ErrNone)
		refusedOut(t, n, tells(own, far, in[i]), 9, 0, api.ErrNone)
		// To wherever it goes: a router between them may have sent what came.
		if q := goesOut(t, n, tells(host, far+9, in[i]), 9, 0, ext); q.Dst != far+9 {
			t.Errorf("to %v", q.Dst)
		}
	}
	for _, p := range []api.Packet{
		datagram(far, host, 54, 5000), datagram(far, host, 53, 5001), datagram(far+1, host, 53, 5000), datagram(far, host+1, 53, 5000),
		segment(far, host, 81, 5000, api.ACK), segment(far, host, 53, 5000, api.ACK), echo(far, host, 0, 8), datagram(host, far, 5000, 53),
	} {
		refusedOut(t, n, tells(host, far, p), 9, 0, api.ErrNone)
	}
}

// The chapter's example.
func TestP12_3Example(t *testing.T) {
	n := napt.New(config())
	goesOut(t, n, datagram(host, far, 5000, 53), 0, 0, 1024)
	goesOut(t, n, datagram(host, far+5, 5000, 80), 0, 0, 1024)
	goesOut(t, n, datagram(host, far, 5001, 53), 0, 0, 1025)
}

// Another host, port or protocol is another end.
func TestP12_3Ends(t *testing.T) {
	n := napt.New(config())
	goesOut(t, n, datagram(host, far, 5000, 53), 0, 7, 1031)
	goesOut(t, n, datagram(host+1, far, 5000, 53), 0, 7, 1032)
	goesOut(t, n, datagram(host, far, 5001, 53), 0, 7, 1033)
	goesOut(t, n, segment(host, far, 5000, 53, api.SYN), 0, 7, 1031)
	goesOut(t, n, echo(host, far, 8, 5000), 0, 7, 1031)
	goesOut(t, n, echo(host, far+1, 8, 5000), 0, 9, 1031)
	goesOut(t, n, datagram(host+1, far+1, 5000, 54), 0, 9, 1032)
}

func TestP12_3Draws(t *testing.T) {
	for _, c := range []struct {
		draw uint64
		ext  uint16
	}{
		{0, 1024}, {1, 1025}, {64510, 65534}, {64511, 65535}, {64512, 1024}, {64513, 1025}, {3976, 5000},
		{math.MaxUint64, uint16(1024 + math.MaxUint64%64512)}, {1 << 63, uint16(1024 + (1<<63)%64512)},
	} {
		goesOut(t, napt.New(config()), datagram(host, far, 5000, 53), 0, c.draw, c.ext)
	}
	n := napt.New(config())
	goesOut(t, n, datagram(host, far, 1, 53), 0, 64511, 65535)
	goesOut(t, n, datagram(host, far, 2, 53), 0, 64511, 1024)
}

// The port of the first rule that goes to the end, mappings ahead of forwards.
func TestP12_3Rules(t *testing.T) {
	for name, c := range map[string]struct {
		forwards []api.Forward
		maps     []api.Mapping
		ext      uint16
	}{
		"none":                            {nil, nil, 1024},
		"a mapping":                       {nil, []api.Mapping{udp(80, host, 5000)}, 80},
		"a mapping of 0":                  {nil, []api.Mapping{udp(0, host, 5000)}, 0},
		"of this other end":               {nil, []api.Mapping{only(udp(80, host, 5000), far)}, 80},
		"of another one":                  {nil, []api.Mapping{only(udp(80, host, 5000), far+1)}, 1024},
		"of another protocol":             {nil, []api.Mapping{tcp(80, host, 5000)}, 1024},
		"of another host":                 {nil, []api.Mapping{udp(80, host+1, 5000)}, 1024},
		"of another port":                 {nil, []api.Mapping{udp(80, host, 5001)}, 1024},
		"of a port that is the end's":     {nil, []api.Mapping{udp(5000, host, 80)}, 1024},
		"two":                             {nil, []api.Mapping{udp(81, host, 5000), udp(80, host, 5000)}, 81},
		"any's ahead of this other end's": {nil, []api.Mapping{udp(81, host, 5000), only(udp(80, host, 5000), far)}, 81},
		"this other end's ahead of any's": {nil, []api.Mapping{only(udp(81, host, 5000), far), udp(80, host, 5000)}, 81},
		"behind one of another":           {nil, []api.Mapping{only(udp(81, host, 5000), far+1), udp(80, host, 5000)}, 80},
		"a forward":                       {[]api.Forward{forward(udp(90, host, 5000))}, nil, 90},
		"two forwards":                    {[]api.Forward{forward(udp(91, host, 5000)), forward(udp(90, host, 5000))}, nil, 91},
		"a forward of another protocol":   {[]api.Forward{forward(tcp(90, host, 5000))}, nil, 1024},
		"a forward of another host":       {[]api.Forward{forward(udp(90, host+1, 5000))}, nil, 1024},
		"a forward of another port":       {[]api.Forward{forward(udp(90, host, 5001))}, nil, 1024},
		"both":                            {[]api.Forward{forward(udp(90, host, 5000))}, []api.Mapping{udp(95, host, 5000)}, 95},
		"a forward and another's mapping": {[]api.Forward{forward(udp(90, host, 5000))}, []api.Mapping{only(udp(80, host, 5000), far+1)}, 90},
		"a mapping of a port above 1023":  {nil, []api.Mapping{udp(1024, host, 5000)}, 1024},
	} {
		t.Log(name)
		n := napt.New(config(c.forwards...))
		n.Rules(c.maps...)
		goesOut(t, n, datagram(host, far, 5000, 53), 0, 0, c.ext)
	}
}

// By a rule the Ext isn't the end's: to another end that gets one of its own.
func TestP12_3RuleIsNoEnds(t *testing.T) {
	n := napt.New(config())
	n.Rules(only(udp(2000, host, 5000), far))
	goesOut(t, n, datagram(host, far, 5000, 53), 0, 976, 2000)
	goesOut(t, n, datagram(host, far+1, 5000, 53), 0, 976, 2001)
	goesOut(t, n, datagram(host, far, 5000, 54), 0, 976, 2000)
	goesOut(t, n, datagram(host, far+2, 5000, 53), 0, 976, 2001)
	// The one that the end has goes on for that, though a rule leads there now.
	n.Rules(udp(2002, host, 5000))
	goesOut(t, n, datagram(host, far+1, 5000, 53), 0, 976, 2001)
	goesOut(t, n, datagram(host, far+3, 5000, 53), 0, 976, 2002)
}

// Queries, too, go by mappings, if there are such.
func TestP12_3RuleOfQueries(t *testing.T) {
	n := napt.New(config())
	n.Rules(api.Mapping{Proto: api.ICMP, Ext: 99, To: 7, Host: host}, api.Mapping{Proto: api.ICMP, Ext: 1024, To: 8, Host: host + 1})
	goesOut(t, n, echo(host, far, 8, 7), 0, 0, 99)
	goesOut(t, n, echo(host, far, 8, 8), 0, 0, 1025)
	goesIn(t, n, echo(far, own, 0, 99), 0, host, 7)
	refusedIn(t, n, echo(far, own, 8, 99), 0, api.ErrNone)
	refusedIn(t, n, echo(far, own, 0, 1024), 0, api.ErrNone)
}

// all gives mappings of the ports from one on.
func all(proto byte, from int) []api.Mapping {
	var out []api.Mapping
	for port := from; port <= 65535; port++ {
		out = append(out, api.Mapping{Proto: proto, Ext: uint16(port), To: 1, Host: host + 2})
	}
	return out
}

func TestP12_3NoPortIsLeft(t *testing.T) {
	n := napt.New(config())
	n.Rules(all(api.UDP, 1024)...)
	for _, draw := range []uint64{0, 5, 64511} {
		refusedOut(t, n, datagram(host, far, 5000, 53), 0, draw, api.ErrFull)
	}
	goesOut(t, n, segment(host, far, 5000, 53, api.SYN), 0, 5, 1029)
	goesOut(t, n, echo(host, far, 8, 5000), 0, 5, 1029)
	goesOut(t, n, datagram(host+2, far, 1, 53), 0, 5, 1024)
	n.Rules(all(api.UDP, 1026)...)
	goesOut(t, n, datagram(host, far, 5000, 53), 0, 5000, 1024)
	goesOut(t, n, datagram(host, far, 5001, 53), 0, 5000, 1025)
	refusedOut(t, n, datagram(host, far, 5002, 53), 0, 5000, api.ErrFull)
}

func TestP12_3Renewed(t *testing.T) {
	n := napt.New(config())
	for i, c := range []struct {
		p    api.Packet
		now  uint64
		want api.Session
	}{
		{datagram(host, far, 5000, 53), 7, api.Session{Ends: 307}},
		{datagram(host, far, 5000, 53), 8, api.Session{Ends: 308}},
		{echo(host, far, 8, 5), 9, api.Session{Ends: 69}},
		{echo(host, far, 8, 5), 20, api.Session{Ends: 80}},
		{segment(host, far, 5000, 80, api.SYN), 20, api.Session{Ends: 260, State: api.State{SynOut: true}}},
		{segment(host, far, 5000, 80, api.ACK), 21, api.Session{Ends: 261, State: api.State{SynOut: true}}},
		{segment(host, far, 5000, 80, api.FIN|api.ACK), 21, api.Session{Ends: 261, State: api.State{SynOut: true, FinOut: true}}},
		{segment(host, far, 5000, 80, api.RST), 22, api.Session{Ends: 262, State: api.State{SynOut: true, FinOut: true, Rst: true}}},
		{segment(host, far, 5000, 80, api.SYN), 23, api.Session{Ends: 263, State: api.State{SynOut: true}}},
		{segment(host, far, 5001, 80, api.SYN|api.FIN), 24, api.Session{Ends: 264, State: api.State{SynOut: true, FinOut: true}}},
	} {
		if _, err := n.Out(c.p, c.now, 0); err != api.OK {
			t.Fatal(err)
		}
		got := find(t, n, of(c.p))
		c.want.Flow, c.want.Ext, c.want.Lan = of(c.p), got.Ext, true
		if got != c.want {
			t.Errorf("%d: %v, not %v", i, got, c.want)
		}
	}
}

// Ends never goes beyond the last second.
func TestP12_3LastSecond(t *testing.T) {
	for _, c := range []struct{ now, want uint64 }{
		{math.MaxUint64 - 301, math.MaxUint64 - 1}, {math.MaxUint64 - 300, math.MaxUint64}, {math.MaxUint64 - 299, math.MaxUint64}, {math.MaxUint64, math.MaxUint64},
	} {
		n := napt.New(config(forward(udp(80, host, 8080))))
		goesOut(t, n, datagram(host, far, 5000, 53), c.now, 0, 1024)
		goesIn(t, n, datagram(far, own, 1, 80), c.now, host, 8080)
		for s := range n.Sessions() {
			if s.Ends != c.want {
				t.Errorf("at %d: %v", c.now, s)
			}
		}
	}
}

// All but the ends is as it was, check sums are right.
func TestP12_4(t *testing.T) {
	n := napt.New(config())
	for _, p := range []api.Packet{datagram(host, far, 5000, 53), segment(host, far, 5000, 53, api.SYN), echo(host, far, 8, 5000)} {
		for _, ttl := range []byte{0, 1, 255} {
			p.TTL, p.ID = ttl, uint16(ttl)*3
			q := goesOut(t, n, p, 0, 0, 1024)
			if q.TTL != p.TTL || q.ID != p.ID || q.Proto != p.Proto || q.Src != own || q.Dst != far {
				t.Errorf("%v became %v", p, q)
			}
			if f := of(q); f != (api.Flow{Proto: p.Proto, Src: own, Dst: far, From: 1024, To: of(p).To}) {
				t.Errorf("%v goes as %v", p, f)
			}
		}
	}
	b, err := trans.WriteUDP(host, far, api.Datagram{From: 5000, To: 53, Plain: true, Data: []byte("plain")})
	q := goesOut(t, n, packet(host, far, api.UDP, b, err), 0, 0, 1024)
	if d, err := trans.ReadUDP(own, far, q.Body); err != api.OK || !d.Plain || string(d.Data) != "plain" {
		t.Errorf("%v, %v", d, err)
	}
}

func TestP12_5ToAnother(t *testing.T) {
	n := napt.New(withDMZ(forward(tcp(80, host, 8080))))
	n.Rules(udp(80, host, 8080))
	goesOut(t, n, datagram(host, far, 5000, 53), 0, 0, 1024)
	for _, to := range []api.Addr{0, host, far, own + 1, own - 1, 0xc0a80101} {
		refusedIn(t, n, datagram(far, to, 53, 1024), 0, api.ErrNone)
		refusedIn(t, n, datagram(far, to, 53, 80), 0, api.ErrNone)
		refusedIn(t, n, segment(far, to, 53, 80, api.SYN), 0, api.ErrNone)
	}
}

func TestP12_5Answers(t *testing.T) {
	n := napt.New(withDMZ())
	for i, id := range []uint16{0, 7, 65535} {
		ext := uint16(1024 + i)
		refusedIn(t, n, echo(far, own, 0, ext), 0, api.ErrNone)
		goesOut(t, n, echo(host, far, 8, id), 0, 0, ext)
		q := goesIn(t, n, echo(far, own, 0, ext), 0, host, id)
		if f := of(q); f != (api.Flow{Proto: api.ICMP, Src: far, Dst: host, To: id}) {
			t.Errorf("of the id %d: %v", id, f)
		}
		refusedIn(t, n, echo(far+1, own, 0, ext), 0, api.ErrNone)
		refusedIn(t, n, echo(far, own, 8, ext), 0, api.ErrNone)
	}
	for _, id := range []uint16{0, 7, 1023, 1027, 65535} {
		refusedIn(t, n, echo(far, own, 0, id), 0, api.ErrNone)
		refusedIn(t, n, echo(far, own, 8, id), 0, api.ErrNone)
	}
}

// A question never comes in, not even with the id 0, whose flow is an answer's.
func TestP12_5Questions(t *testing.T) {
	n := napt.New(withDMZ())
	n.Rules(api.Mapping{Proto: api.ICMP, Host: host})
	goesOut(t, n, echo(host, far, 8, 0), 0, 0, 0)
	refusedIn(t, n, echo(far, own, 8, 0), 9, api.ErrNone)
	goesIn(t, n, echo(far, own, 0, 0), 9, host, 0)
}

// An error comes in, if it tells of what the host itself has sent; nothing is renewed.
func TestP12_5Errors(t *testing.T) {
	n := napt.New(withDMZ(forward(tcp(80, host, 8080))))
	n.Rules(udp(81, host, 8081))
	for _, p := range []api.Packet{datagram(host, far, 5000, 53), segment(host, far, 5000, 80, api.SYN), echo(host, far, 8, 7)} {
		q := goesOut(t, n, p, 3, 0, 1024)
		for _, router := range []api.Addr{far, far + 9} {
			before := sessions(n)
			in := goesIn(t, n, tells(router, own, q), 9, host, of(p).From)
			if in.Src != router || in.Dst != host {
				t.Errorf("from %v to %v", in.Src, in.Dst)
			}
			m, err := trans.ReadICMP(in.Body)
			if b, _ := inet.Write(p); err != api.OK || !bytes.Equal(m.Data, b[:28]) {
				t.Errorf("it tells of %x, not of %x, %v", m.Data, b[:28], err)
			}
			if after := sessions(n); !slices.Equal(before, after) {
				t.Errorf("%v became %v", before, after)
			}
		}
	}
	for _, p := range []api.Packet{
		datagram(own, far, 1024, 54), datagram(own, far, 1025, 53), datagram(own, far+1, 1024, 53), datagram(own+1, far, 1024, 53), datagram(host, far, 5000, 53),
		segment(own, far, 1024, 81, api.SYN), echo(own, far, 8, 7), echo(own, far, 8, 1025), echo(own, far, 0, 1024), datagram(far, own, 53, 1024),
	} {
		refusedIn(t, n, tells(far, own, p), 9, api.ErrNone)
	}
	// By rules: ahead of what the host sends no error comes in, behind it they do.
	for _, c := range []struct{ in, out api.Packet }{
		{segment(far, own, 9, 80, api.SYN), segment(host, far, 8080, 9, api.SYN|api.ACK)},
		{datagram(far, own, 9, 81), datagram(host, far, 8081, 9)},
		{datagram(far, own, 9, 82), datagram(dmz, far, 82, 9)},
	} {
		ext := of(c.in).To
		refusedIn(t, n, tells(far, own, datagram(own, far, ext, 9)), 3, api.ErrNone)
		goesIn(t, n, c.in, 3, c.out.Src, of(c.out).From)
		e := segment(own, far, ext, 9, api.ACK)
		if c.in.Proto == api.UDP {
			e = datagram(own, far, ext, 9)
		}
		refusedIn(t, n, tells(far, own, e), 4, api.ErrNone)
		goesIn(t, n, tells(far, own, goesOut(t, n, c.out, 3, 0, ext)), 4, c.out.Src, of(c.out).From)
	}
}

// Of several that are told alike without the first one counts, and it alone.
func TestP12_5Several(t *testing.T) {
	n := napt.New(config())
	const first, second api.Addr = host, host + 1
	n.Rules(only(udp(80, first, 8080), far), udp(80, second, 8080))
	goesOut(t, n, datagram(second, far, 8080, 9), 0, 0, 80)
	e := tells(far+5, own, datagram(own, far, 80, 9))
	goesIn(t, n, e, 0, second, 8080)
	goesIn(t, n, datagram(far, own, 9, 80), 0, first, 8080) // There are two now, the first of which has sent nothing.
	refusedIn(t, n, e, 0, api.ErrNone)
	goesOut(t, n, datagram(first, far, 8080, 9), 0, 0, 80)
	goesIn(t, n, e, 0, first, 8080)
	goesIn(t, n, tells(far+5, own, datagram(own, far, 80, 9)), 0, first, 8080)
	n.Rules(udp(80, second, 8080))
	goesIn(t, n, e, 0, second, 8080)
}

// The mapping of a port: that of the sender ahead of that of any, of each the first one.
func TestP12_5Mappings(t *testing.T) {
	for name, c := range map[string]struct {
		maps []api.Mapping
		to   api.Addr
	}{
		"any's":                  {[]api.Mapping{udp(80, host, 7)}, host},
		"the sender's":           {[]api.Mapping{only(udp(80, host, 7), far)}, host},
		"another's":              {[]api.Mapping{only(udp(80, host, 7), far+1)}, 0},
		"any's, the sender's":    {[]api.Mapping{udp(80, host, 7), only(udp(80, host+1, 7), far)}, host + 1},
		"the sender's, any's":    {[]api.Mapping{only(udp(80, host+1, 7), far), udp(80, host, 7)}, host + 1},
		"another's, any's":       {[]api.Mapping{only(udp(80, host+1, 7), far+1), udp(80, host, 7)}, host},
		"two of any":             {[]api.Mapping{udp(80, host+1, 7), udp(80, host, 7)}, host + 1},
		"two of the sender":      {[]api.Mapping{only(udp(80, host+1, 7), far), only(udp(80, host, 7), far)}, host + 1},
		"another port's":         {[]api.Mapping{udp(81, host+1, 7), udp(80, host, 7)}, host},
		"another protocol's":     {[]api.Mapping{tcp(80, host+1, 7), udp(80, host, 7)}, host},
		"another protocol's, no": {[]api.Mapping{tcp(80, host+1, 7)}, 0},
	} {
		t.Log(name)
		n := napt.New(config())
		n.Rules(c.maps...)
		if p := datagram(far, own, 9, 80); c.to != 0 {
			goesIn(t, n, p, 0, c.to, 7)
		} else {
			refusedIn(t, n, p, 0, api.ErrNone)
		}
	}
}

// A mapping goes ahead of a forward, that ahead of the DMZ.
func TestP12_5First(t *testing.T) {
	n := napt.New(withDMZ(forward(udp(80, host+1, 8080)), forward(udp(81, host+1, 8081))))
	n.Rules(only(udp(80, host, 7), far))
	goesIn(t, n, datagram(far, own, 9, 80), 0, host, 7)
	goesIn(t, n, datagram(far+1, own, 9, 80), 0, host+1, 8080)
	goesIn(t, n, datagram(far, own, 9, 81), 0, host+1, 8081)
	goesIn(t, n, datagram(far, own, 9, 82), 0, dmz, 82)
	// A session in which its host has sent goes ahead of both.
	goesOut(t, n, datagram(host, far, 5000, 9), 0, 3976, 5000)
	goesIn(t, n, datagram(far, own, 9, 5000), 0, host, 5000)
	refusedIn(t, n, datagram(far, own, 10, 5000), 0, api.ErrNone) // That port isn't the DMZ's.
}

// Of a session in which its host has sent comes in what is from its other end alone.
func TestP12_5Sessions(t *testing.T) {
	n := napt.New(config())
	goesOut(t, n, segment(host, far, 5000, 80, api.SYN), 0, 0, 1024)
	for _, flags := range []byte{api.SYN | api.ACK, api.ACK, api.RST, 0} {
		goesIn(t, n, segment(far, own, 80, 1024, flags), 0, host, 5000)
	}
	refusedIn(t, n, segment(far, own, 81, 1024, api.SYN), 0, api.ErrNone)
	refusedIn(t, n, segment(far+1, own, 80, 1024, api.SYN), 0, api.ErrNone)
	refusedIn(t, n, segment(far, own, 80, 1025, api.SYN), 0, api.ErrNone)
	refusedIn(t, n, segment(far, own, 80, 5000, api.SYN), 0, api.ErrNone)
	refusedIn(t, n, datagram(far, own, 80, 1024), 0, api.ErrNone)
}

// A forward lets whoever sends in, with or without a session.
func TestP12_5Forwards(t *testing.T) {
	n := napt.New(config(forward(tcp(80, host, 8080)), forward(tcp(81, host, 8080))))
	refusedIn(t, n, segment(far, own, 9, 80, api.ACK), 0, api.ErrNone)
	goesIn(t, n, segment(far, own, 9, 80, api.SYN), 0, host, 8080)
	goesIn(t, n, segment(far, own, 9, 80, api.ACK), 0, host, 8080)
	refusedIn(t, n, segment(far, own, 9, 81, api.SYN), 0, api.ErrNone) // There is one of that flow, by another port.
	goesIn(t, n, segment(far, own, 10, 81, api.SYN), 0, host, 8080)
	goesIn(t, n, segment(far+1, own, 9, 81, api.SYN), 0, host, 8080)
	refusedIn(t, n, datagram(far, own, 9, 80), 0, api.ErrNone)
	goesOut(t, n, segment(host, far, 8080, 9, api.SYN|api.ACK), 0, 0, 80)
	goesOut(t, n, segment(host, far+1, 8080, 9, api.SYN|api.ACK), 0, 0, 81)
	goesOut(t, n, segment(host, far+2, 8080, 9, api.SYN), 0, 0, 80)
	refusedIn(t, n, segment(far, own, 9, 81, api.SYN), 0, api.ErrNone)
	goesIn(t, n, segment(far, own, 9, 80, api.ACK), 0, host, 8080)
}

// Nor does a mapping let in what is in a session by another port.
func TestP12_5AnotherExt(t *testing.T) {
	n := napt.New(config())
	n.Rules(udp(80, host, 8080), udp(81, host, 8080))
	goesIn(t, n, datagram(far, own, 9, 81), 0, host, 8080)
	refusedIn(t, n, datagram(far, own, 9, 80), 5, api.ErrNone)
	goesIn(t, n, datagram(far, own, 9, 81), 5, host, 8080)
	goesOut(t, n, datagram(host, far, 8080, 9), 5, 0, 81)
	// The end's own one is another one, too.
	n = napt.New(config())
	goesOut(t, n, datagram(host, far, 8080, 9), 0, 0, 1024)
	n.Rules(udp(80, host, 8080))
	refusedIn(t, n, datagram(far, own, 9, 80), 0, api.ErrNone)
	goesIn(t, n, datagram(far, own, 9, 1024), 0, host, 8080)
}

func TestP12_5Full(t *testing.T) {
	c := withDMZ(forward(tcp(80, host, 8080)))
	c.MaxSessions = 3
	n := napt.New(c)
	n.Rules(tcp(81, host, 8081))
	in := []api.Packet{segment(far, own, 9, 80, api.SYN), segment(far, own, 9, 81, api.SYN), segment(far, own, 9, 5000, api.SYN)}
	for _, p := range in {
		if _, err := n.In(p, 0); err != api.OK {
			t.Fatal(err)
		}
	}
	for _, port := range []uint16{80, 81, 5000, 5001} {
		refusedIn(t, n, segment(far+1, own, 9, port, api.SYN), 0, api.ErrFull)
		refusedIn(t, n, segment(far+1, own, 9, port, api.ACK), 0, api.ErrNone)
	}
	refusedIn(t, n, datagram(far, own, 9, 5002), 0, api.ErrFull)
	for _, p := range in {
		if _, err := n.In(p, 0); err != api.OK {
			t.Errorf("In of %v: %v", p, err)
		}
	}
	n.Expire(240)
	// What was refused has taken no port.
	goesOut(t, n, segment(host, far, 1, 1, api.SYN), 240, 5001-1024, 5001)
}

// To the DMZ goes the same port, and that is its end's Ext behind it.
func TestP12_5DMZ(t *testing.T) {
	for _, port := range []uint16{0, 1, 80, 1023, 1024, 5000, 65535} {
		n := napt.New(withDMZ())
		refusedIn(t, n, segment(far, own, 9, port, api.ACK), 0, api.ErrNone)
		goesIn(t, n, segment(far, own, 9, port, api.SYN), 0, dmz, port)
		goesIn(t, n, segment(far, own, 9, port, api.ACK), 0, dmz, port)
		goesIn(t, n, segment(far+1, own, 9, port, api.SYN), 0, dmz, port)
		goesOut(t, n, segment(dmz, far, port, 9, api.SYN|api.ACK), 0, 0, port)
		goesOut(t, n, segment(dmz, far+2, port, 9, api.SYN), 0, 0, port)
		goesIn(t, n, datagram(far, own, 9, port), 0, dmz, port)
		if port >= 1024 { // Then nobody else gets it.
			draw := uint64(port - 1024)
			next := uint16(1024 + (draw+1)%64512)
			goesOut(t, n, segment(host, far, port, 9, api.SYN), 0, draw, next)
			goesOut(t, n, datagram(host, far, port, 9), 0, draw, next)
			goesOut(t, n, echo(host, far, 8, port), 0, draw, port)
		}
	}
	n := napt.New(config())
	refusedIn(t, n, datagram(far, own, 9, 80), 0, api.ErrNone)
}

// Not to the DMZ goes what is to a port that a rule, or another end, has, nor if its own end has another one.
func TestP12_5DMZRefused(t *testing.T) {
	n := napt.New(withDMZ(forward(tcp(80, host, 8080))))
	n.Rules(only(udp(80, host, 8080), far+1), only(udp(5000, host, 8080), far+1))
	refusedIn(t, n, datagram(far, own, 9, 80), 0, api.ErrNone)
	refusedIn(t, n, datagram(far, own, 9, 5000), 0, api.ErrNone)
	goesIn(t, n, segment(far, own, 9, 5000, api.SYN), 0, dmz, 5000)
	// Another host's, and another port's of its own.
	goesOut(t, n, datagram(host, far, 7, 1), 0, 0, 1024)
	goesOut(t, n, datagram(dmz, far, 8, 1), 0, 0, 1025)
	refusedIn(t, n, datagram(far, own, 9, 1024), 0, api.ErrNone)
	refusedIn(t, n, datagram(far, own, 9, 1025), 0, api.ErrNone)
	refusedIn(t, n, datagram(far, own, 9, 8), 0, api.ErrNone) // Told as 1025.
	goesIn(t, n, segment(far, own, 9, 1024, api.SYN), 0, dmz, 1024)
	goesIn(t, n, segment(far, own, 9, 8, api.SYN), 0, dmz, 8)
	// The very same port as its own.
	goesOut(t, n, datagram(dmz, far, 6000, 1), 0, 6000-1024, 6000)
	goesIn(t, n, datagram(far, own, 9, 6000), 0, dmz, 6000)
	// When they are gone, it may.
	n.Expire(300)
	goesIn(t, n, datagram(far, own, 9, 1024), 300, dmz, 1024)
	goesIn(t, n, datagram(far, own, 9, 1025), 300, dmz, 1025)
	goesIn(t, n, datagram(far, own, 9, 8), 300, dmz, 8)
	n.Rules()
	goesIn(t, n, datagram(far, own, 9, 80), 300, dmz, 80)
	goesIn(t, n, datagram(far, own, 9, 5000), 300, dmz, 5000)
}

// A session of the DMZ by a rule has another Ext than what goes there by the same port.
func TestP12_5DMZAndRule(t *testing.T) {
	n := napt.New(withDMZ())
	n.Rules(udp(80, dmz, 8080))
	goesIn(t, n, datagram(far, own, 9, 80), 0, dmz, 8080)
	refusedIn(t, n, datagram(far, own, 9, 8080), 0, api.ErrNone)
	goesIn(t, n, datagram(far+1, own, 9, 8080), 0, dmz, 8080)
	refusedIn(t, n, datagram(far+1, own, 9, 80), 0, api.ErrNone)
	goesOut(t, n, datagram(dmz, far, 8080, 9), 0, 0, 80)
	goesOut(t, n, datagram(dmz, far+1, 8080, 9), 0, 0, 8080)
	goesOut(t, n, datagram(dmz, far+2, 8080, 9), 0, 0, 80)
	n.Rules()
	goesOut(t, n, datagram(dmz, far+3, 8080, 9), 0, 0, 8080)
}

// Who asks the WAN's address from within comes there as from it.
func TestP12_5FromWithin(t *testing.T) {
	n := napt.New(config())
	n.Rules(tcp(80, host, 8080))
	q := goesOut(t, n, segment(host+1, own, 5000, 80, api.SYN), 0, 0, 1024)
	in := goesIn(t, n, q, 0, host, 8080)
	if f := of(in); f != (api.Flow{Proto: api.TCP, Src: own, Dst: host, From: 1024, To: 8080}) {
		t.Fatalf("%v", f)
	}
	back := goesOut(t, n, segment(host, own, 8080, 1024, api.SYN|api.ACK), 0, 0, 80)
	in = goesIn(t, n, back, 0, host+1, 5000)
	if f := of(in); f != (api.Flow{Proto: api.TCP, Src: own, Dst: host + 1, From: 80, To: 5000}) {
		t.Errorf("%v", f)
	}
}

func TestP12_6Renewed(t *testing.T) {
	n := napt.New(withDMZ(forward(tcp(80, host, 8080))))
	goesOut(t, n, echo(host, far, 8, 7), 0, 0, 1024)
	goesOut(t, n, datagram(host, far, 5000, 53), 0, 0, 1024)
	goesOut(t, n, segment(host, far, 5000, 53, api.SYN), 0, 0, 1024)
	out := api.State{SynOut: true}
	for i, c := range []struct {
		p    api.Packet
		now  uint64
		want api.Session
	}{
		{echo(far, own, 0, 1024), 5, api.Session{Flow: api.Flow{Proto: api.ICMP, Src: host, Dst: far, From: 7}, Ext: 1024, Ends: 65, Lan: true}},
		{datagram(far, own, 53, 1024), 6, api.Session{Flow: api.Flow{Proto: api.UDP, Src: host, Dst: far, From: 5000, To: 53}, Ext: 1024, Ends: 306, Lan: true}},
		{segment(far, own, 53, 1024, api.SYN|api.ACK), 7, api.Session{Flow: api.Flow{Proto: api.TCP, Src: host, Dst: far, From: 5000, To: 53}, Ext: 1024, Ends: 7447, Lan: true,
			State: api.State{SynOut: true, SynIn: true}}},
		{segment(far, own, 53, 1024, api.FIN), 8, api.Session{Flow: api.Flow{Proto: api.TCP, Src: host, Dst: far, From: 5000, To: 53}, Ext: 1024, Ends: 7448, Lan: true,
			State: api.State{SynOut: true, SynIn: true, FinIn: true}}},
		{segment(far, own, 53, 1024, api.RST), 9, api.Session{Flow: api.Flow{Proto: api.TCP, Src: host, Dst: far, From: 5000, To: 53}, Ext: 1024, Ends: 249, Lan: true,
			State: api.State{SynOut: true, SynIn: true, FinIn: true, Rst: true}}},
		// By rules, and to the DMZ: it isn't Lan, neither a new one nor one that is renewed.
		{segment(far, own, 9, 80, api.SYN), 10, api.Session{Flow: api.Flow{Proto: api.TCP, Src: host, Dst: far, From: 8080, To: 9}, Ext: 80, Ends: 250, State: api.State{SynIn: true}}},
		{segment(far, own, 9, 80, api.ACK), 11, api.Session{Flow: api.Flow{Proto: api.TCP, Src: host, Dst: far, From: 8080, To: 9}, Ext: 80, Ends: 251, State: api.State{SynIn: true}}},
		{datagram(far, own, 9, 81), 12, api.Session{Flow: api.Flow{Proto: api.UDP, Src: dmz, Dst: far, From: 81, To: 9}, Ext: 81, Ends: 312}},
		{datagram(far, own, 9, 81), 13, api.Session{Flow: api.Flow{Proto: api.UDP, Src: dmz, Dst: far, From: 81, To: 9}, Ext: 81, Ends: 313}},
	} {
		f := c.want.Flow
		q := goesIn(t, n, c.p, c.now, f.Src, f.From)
		if q.TTL != c.p.TTL || q.ID != c.p.ID {
			t.Errorf("%d: %v", i, q)
		}
		if got := find(t, n, f); got != c.want {
			t.Errorf("%d: %v, not %v", i, got, c.want)
		}
	}
	// What goes out behind it goes on from the state that was seen.
	goesOut(t, n, segment(host, far, 8080, 9, api.SYN|api.ACK), 14, 0, 80)
	want := api.Session{Flow: api.Flow{Proto: api.TCP, Src: host, Dst: far, From: 8080, To: 9}, Ext: 80, Ends: 14 + 7440, Lan: true, State: out}
	want.State.SynIn = true
	if got := find(t, n, want.Flow); got != want {
		t.Errorf("%v, not %v", got, want)
	}
}

func TestP12_7Expire(t *testing.T) {
	n := napt.New(withDMZ(forward(tcp(80, host, 8080))))
	goesOut(t, n, echo(host, far, 8, 7), 0, 0, 1024)
	goesOut(t, n, segment(host, far, 5000, 1, api.SYN), 0, 0, 1024)
	goesOut(t, n, datagram(host, far, 5000, 1), 0, 0, 1024)
	goesIn(t, n, segment(far, own, 9, 80, api.SYN), 0, host, 8080)
	goesOut(t, n, segment(host, far, 8080, 9, api.SYN|api.ACK), 0, 0, 80)
	for _, c := range []struct {
		now  uint64
		left int
	}{{0, 4}, {59, 4}, {60, 3}, {60, 3}, {239, 3}, {240, 2}, {299, 2}, {300, 1}, {7439, 1}, {7440, 0}, {math.MaxUint64, 0}} {
		n.Expire(c.now)
		if n.Len() != c.left || len(sessions(n)) != c.left {
			t.Errorf("at %d: %v", c.now, sessions(n))
		}
	}
	goesOut(t, n, datagram(host, far, 5000, 1), math.MaxUint64, 0, 1024)
	n.Expire(math.MaxUint64)
	if n.Len() != 0 {
		t.Errorf("at the last second: %v", sessions(n))
	}
}

// What comes and goes lets a session last; what has ended lasts till Expire takes it out.
func TestP12_7Renewed(t *testing.T) {
	n := napt.New(config())
	goesOut(t, n, datagram(host, far, 5000, 1), 0, 0, 1024)
	goesIn(t, n, datagram(far, own, 1, 1024), 200, host, 5000)
	n.Expire(499)
	goesOut(t, n, datagram(host, far, 5000, 1), 499, 7, 1024)
	n.Expire(798)
	goesIn(t, n, datagram(far, own, 1, 1024), 900, host, 5000)
	n.Expire(1199)
	if n.Len() != 1 {
		t.Errorf("at 1199: %v", sessions(n))
	}
	n.Expire(1200)
	refusedIn(t, n, datagram(far, own, 1, 1024), 1200, api.ErrNone)
}

// An end's Ext is free behind the last session that was given it, not earlier, and those by rules play no part.
func TestP12_7ExtIsFree(t *testing.T) {
	n := napt.New(config())
	n.Rules(only(udp(2000, host, 5000), far+9))
	goesOut(t, n, datagram(host, far, 5000, 1), 0, 0, 1024)
	goesOut(t, n, datagram(host, far, 5000, 2), 10, 0, 1024)
	goesOut(t, n, datagram(host, far+9, 5000, 1), 20, 0, 2000)
	n.Expire(300)
	goesOut(t, n, datagram(host, far, 5000, 3), 300, 7, 1024)
	goesOut(t, n, datagram(host+1, far, 5000, 1), 300, 0, 1025)
	goesOut(t, n, datagram(host, far+9, 5000, 1), 301, 0, 2000)
	n.Expire(600)
	if n.Len() != 1 {
		t.Fatalf("at 600: %v", sessions(n))
	}
	goesOut(t, n, datagram(host+2, far, 5000, 1), 600, 0, 1024)
	goesOut(t, n, datagram(host, far, 5000, 1), 600, 0, 1025)
	// Nor is a rule's port free when a session by it is gone.
	n.Expire(601)
	goesOut(t, n, datagram(host+3, far, 5000, 1), 601, 2000-1024, 2001)
}

// spoil writes over all of b's room, the spare one too.
func spoil(b []byte) {
	b = b[:cap(b)]
	for i := range b {
		b[i] ^= 0xee
	}
}

// withRoom gives a packet whose body has spare room.
func withRoom(p api.Packet) api.Packet {
	p.Body = append(make([]byte, 0, len(p.Body)+50), p.Body...)
	return p
}

func TestP12_8Arguments(t *testing.T) {
	forwards := append(make([]api.Forward, 0, 5), forward(tcp(80, host, 8080)))
	maps := append(make([]api.Mapping, 0, 5), udp(81, host, 8081))
	n := napt.New(config(forwards...))
	n.Rules(maps...)
	if !slices.Equal(maps, []api.Mapping{udp(81, host, 8081)}) || maps[:2][1] != (api.Mapping{}) || forwards[:2][1] != (api.Forward{}) {
		t.Errorf("%v, %v became others", maps[:5], forwards[:5])
	}
	// What was handed in isn't kept.
	forwards[0], maps[0] = forward(tcp(90, host, 1)), udp(91, host, 1)
	goesIn(t, n, segment(far, own, 9, 80, api.SYN), 0, host, 8080)
	goesIn(t, n, datagram(far, own, 9, 81), 0, host, 8081)
	refusedIn(t, n, segment(far, own, 9, 90, api.SYN), 0, api.ErrNone)
	refusedIn(t, n, datagram(far, own, 9, 91), 0, api.ErrNone)
	for _, p := range []api.Packet{datagram(host, far, 5000, 1), segment(host, far, 5000, 1, api.SYN), echo(host, far, 8, 7),
		tells(host, far, segment(far, host, 9, 8080, api.ACK))} {
		p = withRoom(p)
		was := bytes.Clone(p.Body[:cap(p.Body)])
		q, err := n.Out(p, 0, 0)
		if err != api.OK || !bytes.Equal(p.Body[:cap(p.Body)], was) {
			t.Errorf("%v: %v", p, err)
		}
		body := bytes.Clone(q.Body)
		spoil(p.Body)
		if !bytes.Equal(q.Body, body) {
			t.Errorf("the answer shares the memory of %v", p)
		}
	}
	for _, p := range []api.Packet{datagram(far, own, 1, 1024), segment(far, own, 1, 1024, api.ACK), echo(far, own, 0, 1024), tells(far, own, datagram(own, far, 1024, 1))} {
		p = withRoom(p)
		was := bytes.Clone(p.Body[:cap(p.Body)])
		q, err := n.In(p, 0)
		if err != api.OK || !bytes.Equal(p.Body[:cap(p.Body)], was) {
			t.Errorf("%v: %v", p, err)
		}
		body := bytes.Clone(q.Body)
		spoil(p.Body)
		if !bytes.Equal(q.Body, body) {
			t.Errorf("the answer shares the memory of %v", p)
		}
	}
}

// Each Nat is by itself, though they be of one configuration.
func TestP12_8NatsByThemselves(t *testing.T) {
	c := withDMZ(forward(tcp(80, host, 8080)))
	one, two := napt.New(c), napt.New(c)
	one.Rules(udp(81, host, 8081))
	goesIn(t, one, datagram(far, own, 9, 81), 0, host, 8081)
	goesOut(t, one, datagram(host, far, 5000, 53), 0, 0, 1024)
	goesIn(t, two, datagram(far, own, 9, 81), 0, dmz, 81)
	goesOut(t, two, datagram(host+1, far, 5000, 53), 0, 0, 1024)
	one.Expire(1000)
	if one.Len() != 0 || two.Len() != 2 {
		t.Errorf("%d, %d", one.Len(), two.Len())
	}
}

// A session that was told isn't changed behind that.
func TestP12_8SessionsAreNew(t *testing.T) {
	n := napt.New(config())
	goesOut(t, n, datagram(host, far, 5000, 53), 0, 0, 1024)
	was := sessions(n)
	goesOut(t, n, datagram(host, far, 5000, 53), 100, 0, 1024)
	if was[0].Ends != 300 || sessions(n)[0].Ends != 400 {
		t.Errorf("%v, %v", was, sessions(n))
	}
	was[0].Ends, was[0].Ext = 1, 1
	if s := sessions(n)[0]; s.Ends != 400 || s.Ext != 1024 {
		t.Errorf("%v", s)
	}
}

// As many sessions as there may be, each of an end of its own.
func TestP12_8Many(t *testing.T) {
	c := config()
	c.MaxSessions = 4096
	n := napt.New(c)
	for i := range 4096 {
		goesOut(t, n, datagram(host+api.Addr(i%7), far, uint16(i), 53), uint64(i/64), uint64(i)*31, of(datagramTold(i)).From)
	}
	refusedOut(t, n, datagram(host, far, 9999, 53), 64, 0, api.ErrFull)
	for i := range 4096 {
		goesIn(t, n, datagram(far, own, 53, of(datagramTold(i)).From), 64, host+api.Addr(i%7), uint16(i))
	}
	n.Expire(364)
	if n.Len() != 0 {
		t.Errorf("%d are left", n.Len())
	}
}

// datagramTold gives the i-th of those as it goes out: the draws don't meet one another.
func datagramTold(i int) api.Packet { return datagram(own, far, uint16(1024+(i*31)%64512), 53) }

// drive does the calls that the numbers of seed choose, and tells what they answered.
func drive(seed int64) string {
	r := rand.New(rand.NewSource(seed))
	n, out := napt.New(someConfig(r)), ""
	now := uint64(0)
	for range 100 {
		var q api.Packet
		var err api.Errno
		switch r.Intn(8) {
		case 0:
			n.Rules(someRules(r)...)
		case 1:
			now += uint64(r.Intn(100))
			n.Expire(now)
		case 2, 3, 4:
			q, err = n.Out(someOut(r, nil), now, r.Uint64())
		default:
			q, err = n.In(someIn(r, nil), now)
		}
		out += fmt.Sprintln(q, err, n.Len(), sessions(n))
	}
	return out
}

// P2: two runs of the same calls give the same answers.
func TestP2Runs(t *testing.T) {
	for seed := range int64(50) {
		if one, two := drive(seed), drive(seed); one != two {
			t.Fatalf("seed %d: two runs differ:\n%s\n%s", seed, one, two)
		}
	}
}

// wild gives a packet of any bytes.
func wild(r *rand.Rand) api.Packet {
	b := make([]byte, r.Intn(60))
	r.Read(b)
	return api.Packet{TTL: byte(r.Uint32()), Proto: oneOf[byte](r, 0, api.ICMP, api.TCP, api.UDP, 255), ID: uint16(r.Uint32()),
		Src: oneOf[api.Addr](r, 0, host, far, own, api.Addr(r.Uint32())), Dst: oneOf[api.Addr](r, 0, host, far, own, api.Addr(r.Uint32())), Body: b}
}

// P1: no call panics, whatever the configuration, the mappings and the packets are.
func TestP1Wild(t *testing.T) {
	for seed := range int64(200) {
		r := rand.New(rand.NewSource(seed))
		c := api.Config{WanAddr: own, MaxSessions: oneOf(r, -1, 0, 2, math.MinInt, math.MaxInt), DMZ: oneOf[api.Addr](r, 0, 1, own)}
		for range r.Intn(5) {
			c.Forwards = append(c.Forwards, api.Forward{Proto: byte(r.Uint32()), Port: somePort(r), To: somePort(r), Host: someHost(r)})
		}
		n := napt.New(c)
		for range 100 {
			maps := someRules(r)
			for i := range maps {
				maps[i].Proto = byte(r.Uint32())
			}
			n.Rules(maps...)
			for _, p := range []api.Packet{wild(r), someOut(r, nil), someIn(r, nil)} {
				n.Out(p, r.Uint64(), r.Uint64())
				n.In(p, r.Uint64())
			}
			if n.Len() > max(c.MaxSessions, 0) || n.Len() != len(sessions(n)) {
				t.Fatalf("%d sessions of %d", n.Len(), c.MaxSessions)
			}
			if r.Intn(20) == 0 {
				n.Expire(r.Uint64())
			}
		}
	}
}
