package flow_test

import (
	"bytes"
	"fmt"
	"math/rand"
	"slices"
	"testing"

	"hearth/api"
	"hearth/flow"
	"hearth/inet"
	"hearth/trans"
)

// The signatures that the chapter lists.
var (
	_ func(api.Packet) (api.Flow, int, api.Errno)        = flow.Of
	_ func(api.Flow) api.Flow                            = flow.Turn
	_ func(api.Packet, api.Flow) (api.Packet, api.Errno) = flow.Rewrite
	_ func(a, b api.Flow) int                            = flow.Order
)

const (
	host   = 0xc0a80107
	far    = 0x08080909
	own    = 0xcb007105
	router = 0x01020304
)

// packet gives a packet with a body, whose other fields are others in each than their zero values.
func packet(src, dst api.Addr, body []byte, proto byte) api.Packet {
	return api.Packet{TTL: 63, Proto: proto, ID: 0x7a7b, Src: src, Dst: dst, Body: body}
}

func segment(src, dst api.Addr, s api.Segment) api.Packet {
	b, err := trans.WriteTCP(src, dst, s)
	return packet(src, dst, must(b, err), api.TCP)
}

func datagram(src, dst api.Addr, d api.Datagram) api.Packet {
	b, err := trans.WriteUDP(src, dst, d)
	return packet(src, dst, must(b, err), api.UDP)
}

func message(src, dst api.Addr, m api.Message) api.Packet {
	b, err := trans.WriteICMP(m)
	return packet(src, dst, must(b, err), api.ICMP)
}

func must(b []byte, err api.Errno) []byte {
	if err != api.OK {
		panic(err)
	}
	return b
}

// raw gives the bytes of a packet.
func raw(p api.Packet) []byte {
	b, err := inet.Write(p)
	return must(b, err)
}

// tells gives an error that a router tells of the first bytes of a packet.
func tells(dst api.Addr, b []byte) api.Packet {
	return message(router, dst, api.Message{Type: 11, Rest: 0x01020304, Data: b})
}

// first gives the first bytes of a packet's ones.
func first(n int, p api.Packet) []byte { return raw(p)[:n] }

// with gives a copy of bytes in which one is another.
func with(b []byte, at int, n byte) []byte {
	b = bytes.Clone(b)
	b[at] = n
	return b
}

// spoil writes over all of b's room, the spare one too.
func spoil(b []byte) {
	b = b[:cap(b)]
	for i := range b {
		b[i] ^= 0xee
	}
}

// samePacket holds packets against one another; bodies without bytes are one with nil ones.
func samePacket(a, b api.Packet) bool {
	return fmt.Sprint(a) == fmt.Sprint(b)
}

// goes holds what Of tells against what it should.
func goes(t *testing.T, name string, p api.Packet, f api.Flow, kind int) {
	t.Helper()
	if got, k, err := flow.Of(p); got != f || k != kind || err != api.OK {
		t.Errorf("%s: Of: %v, %d, %v, not %v, %d", name, got, k, err, f, kind)
	}
}

// refused holds both calls against an error; Rewrite is told flows of each protocol.
func refused(t *testing.T, name string, p api.Packet, want api.Errno) {
	t.Helper()
	if f, kind, err := flow.Of(p); f != (api.Flow{}) || kind != api.CarriesNone || err != want {
		t.Errorf("%s: Of: %v, %d, %v, not %v", name, f, kind, err, want)
	}
	for _, proto := range []byte{p.Proto, api.ICMP, api.TCP, api.UDP, 0} {
		f := api.Flow{Proto: proto, Src: 1, Dst: 2, From: 3, To: 4}
		if q, err := flow.Rewrite(p, f); !samePacket(q, api.Packet{}) || err != want {
			t.Errorf("%s: Rewrite to %v: %v, %v, not %v", name, f, q, err, want)
		}
	}
}

func TestP10_1Data(t *testing.T) {
	for _, ends := range [][2]api.Addr{{host, far}, {far, host}, {0, 0}, {0xffffffff, 1}} {
		for _, ports := range [][2]uint16{{5000, 53}, {53, 5000}, {0, 0}, {65535, 1}, {0x0102, 0x0304}} {
			f := api.Flow{Src: ends[0], Dst: ends[1], From: ports[0], To: ports[1]}
			f.Proto = api.TCP
			goes(t, "TCP", segment(f.Src, f.Dst, api.Segment{From: f.From, To: f.To, Opts: make([]byte, 8), Data: []byte("odd")}), f, api.CarriesData)
			f.Proto = api.UDP
			for _, plain := range []bool{false, true} {
				p := datagram(f.Src, f.Dst, api.Datagram{From: f.From, To: f.To, Plain: plain, Data: []byte("odd")})
				goes(t, "UDP", p, f, api.CarriesData)
				p.Body = append(p.Body, "behind it"...)
				goes(t, "UDP with more behind", p, f, api.CarriesData)
			}
		}
	}
}

// The chapter's example, and the answer of its question.
func TestP10_1Query(t *testing.T) {
	for _, id := range []uint16{7, 0, 1, 0x0102, 65535} {
		for _, seq := range []uint32{0, 1, 0xffff} {
			for _, data := range []string{"", "ask", "\x45 what might be a packet's beginning, if it were an error"} {
				m := api.Message{Type: 8, Rest: uint32(id)<<16 | seq, Data: []byte(data)}
				goes(t, "a question", message(host, far, m), api.Flow{Proto: api.ICMP, Src: host, Dst: far, From: id}, api.CarriesQuery)
				m.Type = 0
				goes(t, "an answer", message(far, host, m), api.Flow{Proto: api.ICMP, Src: far, Dst: host, To: id}, api.CarriesQuery)
			}
		}
	}
}

func TestP10_1Protos(t *testing.T) {
	for proto := range 256 {
		if proto == api.ICMP || proto == api.TCP || proto == api.UDP {
			continue
		}
		p := segment(host, far, api.Segment{From: 1, To: 2})
		p.Proto = byte(proto)
		refused(t, fmt.Sprint("protocol ", proto), p, api.ErrForm)
		p.Body = p.Body[:3]
		refused(t, fmt.Sprint("protocol ", proto, " of 3 bytes"), p, api.ErrForm)
		p.Body = make([]byte, 1481)
		refused(t, fmt.Sprint("protocol ", proto, " of 1481 bytes"), p, api.ErrForm)
	}
}

func TestP10_1Layer5(t *testing.T) {
	question := api.Message{Type: 8, Data: []byte("ask")}
	for name, p := range map[string]api.Packet{
		"TCP":  segment(host, far, api.Segment{From: 1, To: 2, Data: []byte("hello")}),
		"UDP":  datagram(host, far, api.Datagram{From: 1, To: 2, Data: []byte("hello")}),
		"ICMP": message(host, far, question),
	} {
		cut, long, wrong := p, p, p
		for _, size := range []int{0, 1, 7} {
			cut.Body = p.Body[:size]
			refused(t, fmt.Sprint(name, " of ", size, " bytes"), cut, api.ErrShort)
		}
		long.Body = append(bytes.Clone(p.Body), make([]byte, 1481-len(p.Body))...)
		refused(t, name+" of 1481 bytes", long, api.ErrLong)
		wrong.Body = with(p.Body, len(p.Body)-1, 1)
		refused(t, name+", a byte is another", wrong, api.ErrSum)
		if name != "ICMP" {
			wrong = p
			wrong.Src++
			refused(t, name+" from another address", wrong, api.ErrSum)
		}
	}
	p := segment(host, far, api.Segment{From: 1, To: 2})
	p.Body = with(p.Body, 12, 4<<4)
	refused(t, "TCP, the head of 16 bytes", p, api.ErrForm)
	p = datagram(host, far, api.Datagram{From: 1, To: 2})
	p.Body = with(p.Body, 5, 9)
	refused(t, "UDP, one byte is missing", p, api.ErrForm)
	for _, kind := range []byte{3, 8, 13} {
		p = message(host, far, api.Message{Type: kind})
		p.Body = with(p.Body, 7, 1)
		refused(t, fmt.Sprint("ICMP of the type ", kind, ", the sum ahead of the form"), p, api.ErrSum)
	}
}

// Each type and code, with Data that an error may have.
func TestP10_1Types(t *testing.T) {
	data := first(28, datagram(host, far, api.Datagram{From: 5000, To: 53}))
	for kind := range 256 {
		for code := range 256 {
			m := api.Message{Type: byte(kind), Code: byte(code), Rest: 7 << 16, Data: data}
			name, p := fmt.Sprint("type ", kind, ", code ", code), message(own, host, m)
			switch {
			case kind == 3 || kind == 11 || kind == 12:
				goes(t, name, p, api.Flow{Proto: api.UDP, Src: far, Dst: host, From: 53, To: 5000}, api.CarriesError)
			case kind == 8 && code == 0:
				goes(t, name, p, api.Flow{Proto: api.ICMP, Src: own, Dst: host, From: 7}, api.CarriesQuery)
			case kind == 0 && code == 0:
				goes(t, name, p, api.Flow{Proto: api.ICMP, Src: own, Dst: host, To: 7}, api.CarriesQuery)
			default:
				refused(t, name, p, api.ErrForm)
			}
		}
	}
}

// inner is a packet of which errors tell, and its flow.
type inner struct {
	name string
	p    api.Packet
	f    api.Flow
}

// inners gives one of each kind that may be told of; all have more than 38 bytes.
func inners() []inner {
	data, rest := []byte("some data that is long enough"), uint32(0x0102)<<16|0x0304
	return []inner{
		{"TCP", segment(host, far, api.Segment{From: 5000, To: 53, Seq: 9, Flags: api.SYN, Opts: make([]byte, 4), Data: data}), api.Flow{Proto: api.TCP, Src: host, Dst: far, From: 5000, To: 53}},
		{"UDP", datagram(host, far, api.Datagram{From: 5000, To: 53, Data: data}), api.Flow{Proto: api.UDP, Src: host, Dst: far, From: 5000, To: 53}},
		{"a Plain one", datagram(host, far, api.Datagram{From: 0x0800, To: 0x0102, Plain: true, Data: data}), api.Flow{Proto: api.UDP, Src: host, Dst: far, From: 0x0800, To: 0x0102}},
		{"a question", message(host, far, api.Message{Type: 8, Rest: rest, Data: data}), api.Flow{Proto: api.ICMP, Src: host, Dst: far, From: 0x0102}},
		{"an answer", message(host, far, api.Message{Type: 0, Rest: rest, Data: data}), api.Flow{Proto: api.ICMP, Src: host, Dst: far, To: 0x0102}},
	}
}

func TestP10_1Error(t *testing.T) {
	for _, in := range inners() {
		want := api.Flow{Proto: in.f.Proto, Src: in.f.Dst, Dst: in.f.Src, From: in.f.To, To: in.f.From}
		all := raw(in.p)
		for size := range len(all) + 1 {
			if name := fmt.Sprint(size, " bytes of ", in.name); size < 28 {
				refused(t, name, tells(host, all[:size]), api.ErrForm)
			} else {
				goes(t, name, tells(host, all[:size]), want, api.CarriesError)
			}
		}
		// Who tells, and to whom, plays no part.
		for _, kind := range []byte{3, 11, 12} {
			goes(t, in.name, message(1, 2, api.Message{Type: kind, Code: 200, Data: all}), want, api.CarriesError)
		}
		goes(t, in.name+" with much behind", tells(host, append(bytes.Clone(all), make([]byte, 1472-len(all))...)), want, api.CarriesError)
	}
	question := message(host, far, api.Message{Type: 8, Rest: 7 << 16})
	goes(t, "the example", tells(host, raw(question)), api.Flow{Proto: api.ICMP, Src: far, Dst: host, To: 7}, api.CarriesError)
}

func TestP10_1ErrorHead(t *testing.T) {
	for _, in := range inners() {
		data := first(28, in.p)
		for n := range 256 {
			if n != 0x45 {
				refused(t, fmt.Sprintf("%s, the first byte %#x", in.name, n), tells(host, with(data, 0, byte(n))), api.ErrForm)
			}
		}
		want := flow.Turn(in.f)
		for bits := range 1 << 16 {
			if bits&(bits-1) != 0 && bits%251 != 0 {
				continue // The bits one by one, and some of several.
			}
			b := with(with(data, 6, byte(bits>>8)), 7, byte(bits))
			if name := fmt.Sprintf("%s, the fragment's bits %#x", in.name, bits); bits%0x2000 == 0 {
				goes(t, name, tells(host, b), want, api.CarriesError)
			} else {
				refused(t, name, tells(host, b), api.ErrForm)
			}
		}
		for _, bits := range []byte{0x20, 0x40, 0x80, 0xe0} {
			goes(t, in.name+", the bits beside the fragment's", tells(host, with(with(data, 6, bits), 7, 0)), want, api.CarriesError)
		}
		// The kind of service, the sizes, the ID, the TTL and the check sums play no part.
		for _, at := range []int{1, 2, 3, 4, 5, 8, 10, 11, 26, 27} {
			for _, n := range []byte{0, 1, 0x45, 255} {
				goes(t, fmt.Sprintf("%s, the byte %d is %#x", in.name, at, n), tells(host, with(data, at, n)), want, api.CarriesError)
			}
		}
	}
}

// Each protocol, and of ICMP each type and code.
func TestP10_1ErrorProtos(t *testing.T) {
	data := first(28, datagram(host, far, api.Datagram{From: 0x0800, To: 0x0102, Data: []byte("hello")}))
	for proto := range 256 {
		p, name := tells(host, with(data, 9, byte(proto))), fmt.Sprint("an error of the protocol ", proto)
		switch proto {
		case api.TCP, api.UDP:
			goes(t, name, p, api.Flow{Proto: byte(proto), Src: far, Dst: host, From: 0x0102, To: 0x0800}, api.CarriesError)
		case api.ICMP: // Of which 8 and 0 are the type and the code.
			goes(t, name, p, api.Flow{Proto: api.ICMP, Src: far, Dst: host, To: uint16(data[24])<<8 | uint16(data[25])}, api.CarriesError)
		default:
			refused(t, name, p, api.ErrForm)
		}
	}
	data = first(28, message(host, far, api.Message{Type: 8, Rest: 0x01020304}))
	for kind := range 256 {
		for code := range 256 {
			p, name := tells(host, with(with(data, 20, byte(kind)), 21, byte(code))), fmt.Sprint("an error of the type ", kind, ", code ", code)
			switch {
			case kind == 8 && code == 0:
				goes(t, name, p, api.Flow{Proto: api.ICMP, Src: far, Dst: host, To: 0x0102}, api.CarriesError)
			case kind == 0 && code == 0:
				goes(t, name, p, api.Flow{Proto: api.ICMP, Src: far, Dst: host, From: 0x0102}, api.CarriesError)
			default:
				refused(t, name, p, api.ErrForm)
			}
		}
	}
}

func TestP10_1Turn(t *testing.T) {
	for proto := range 256 {
		f := api.Flow{Proto: byte(proto), Src: 1, Dst: 0xffffffff, From: 3, To: 65535}
		if got := flow.Turn(f); got != (api.Flow{Proto: byte(proto), Src: 0xffffffff, Dst: 1, From: 65535, To: 3}) {
			t.Errorf("Turn(%v): %v", f, got)
		}
		if got := flow.Turn(flow.Turn(f)); got != f {
			t.Errorf("Turn of Turn(%v): %v", f, got)
		}
	}
}

// others gives flows of a protocol that a packet may be let go in.
func others(proto byte) []api.Flow {
	return []api.Flow{
		{Proto: proto},
		{Proto: proto, Src: own, Dst: far, From: 1024, To: 53},
		{Proto: proto, Src: host, Dst: far, From: 5000, To: 54},
		{Proto: proto, Src: far, Dst: host, From: 53, To: 5000},
		{Proto: proto, Src: far, Dst: own, From: 53, To: 1024},
		{Proto: proto, Src: 0x01020304, Dst: 0x05060708, From: 0x090a, To: 0x0b0c},
		{Proto: proto, Src: 0xffffffff, Dst: 0xffffffff, From: 65535, To: 65535},
	}
}

// rewrites holds what Rewrite answers against what it should.
func rewrites(t *testing.T, name string, p api.Packet, f api.Flow, want api.Packet) {
	t.Helper()
	if got, err := flow.Rewrite(p, f); !samePacket(got, want) || err != api.OK {
		t.Errorf("%s: Rewrite to %v: %v, %v, not %v", name, f, got, err, want)
	}
}

func TestP10_2Data(t *testing.T) {
	s := api.Segment{From: 5000, To: 53, Seq: 0x81020304, Ack: 0x11223344, Flags: 0xff, Window: 1000, Urgent: 0x5566, Opts: []byte{2, 4, 5, 180, 1, 1, 4, 2}, Data: []byte("odd")}
	p := segment(host, far, s)
	for _, f := range append(others(api.TCP), api.Flow{Proto: api.TCP, Src: host, Dst: far, From: 5000, To: 53}) {
		is := s
		is.From, is.To = f.From, f.To
		rewrites(t, "TCP", p, f, segment(f.Src, f.Dst, is))
	}
	for _, plain := range []bool{false, true} {
		for _, data := range []string{"", "odd", "even"} {
			d := api.Datagram{From: 5000, To: 53, Plain: plain, Data: []byte(data)}
			p := datagram(host, far, d)
			for _, f := range append(others(api.UDP), api.Flow{Proto: api.UDP, Src: host, Dst: far, From: 5000, To: 53}) {
				is := d
				is.From, is.To = f.From, f.To
				rewrites(t, "UDP", p, f, datagram(f.Src, f.Dst, is))
				// What plays no part for layer 5 isn't written.
				more := p
				more.Body = append(bytes.Clone(p.Body), "behind it"...)
				rewrites(t, "UDP with more behind", more, f, datagram(f.Src, f.Dst, is))
			}
		}
	}
}

// The four bits beside the head's size are noughts behind layer 5; with them the check sum of the bytes that come is another.
func TestP10_2DataBits(t *testing.T) {
	s := api.Segment{From: 5000, To: 53, Flags: api.ACK, Data: []byte("hello")}
	p := segment(host, far, s)
	check := uint16(p.Body[16])<<8 | uint16(p.Body[17])
	before := uint16(p.Body[12]) << 8
	p.Body[12] |= 15
	after := updated(check, [2]uint16{before, uint16(p.Body[12]) << 8})
	p.Body[16], p.Body[17] = byte(after>>8), byte(after)
	s.From = 1024
	rewrites(t, "with such bits", p, api.Flow{Proto: api.TCP, Src: own, Dst: far, From: 1024, To: 53}, segment(own, far, s))
}

// As many bytes as there may be.
func TestP10_2DataLong(t *testing.T) {
	s := api.Segment{From: 1, To: 2, Opts: make([]byte, 40), Data: make([]byte, 1420)}
	is := s
	is.From, is.To = 3, 4
	rewrites(t, "TCP", segment(host, far, s), api.Flow{Proto: api.TCP, Src: own, Dst: far, From: 3, To: 4}, segment(own, far, is))
	d := api.Datagram{From: 1, To: 2, Data: make([]byte, 1472)}
	long := d
	long.From, long.To = 3, 4
	rewrites(t, "UDP", datagram(host, far, d), api.Flow{Proto: api.UDP, Src: own, Dst: far, From: 3, To: 4}, datagram(own, far, long))
	m := api.Message{Type: 8, Rest: 7<<16 | 1, Data: make([]byte, 1472)}
	asks := m
	asks.Rest = 3<<16 | 1
	rewrites(t, "ICMP", message(host, far, m), api.Flow{Proto: api.ICMP, Src: own, Dst: far, From: 3}, message(own, far, asks))
}

// A datagram whose check sum comes to 0 isn't told as a Plain one.
func TestP10_2DataNought(t *testing.T) {
	p := datagram(host, far, api.Datagram{From: 5000, To: 53})
	seen := false
	for port := range 1 << 16 {
		f := api.Flow{Proto: api.UDP, Src: own, Dst: far, From: uint16(port), To: 53}
		q, err := flow.Rewrite(p, f)
		if err != api.OK || q.Body[6] == 0 && q.Body[7] == 0 {
			t.Fatalf("from %d: %v, %v", port, q, err)
		}
		seen = seen || q.Body[6] == 255 && q.Body[7] == 255
	}
	if !seen {
		t.Error("no check sum has come to 0")
	}
}

func TestP10_2Query(t *testing.T) {
	for _, rest := range []uint32{7 << 16, 7<<16 | 1, 0xffffffff, 0, 0x01020304} {
		for _, data := range []string{"", "odd", "even"} {
			for _, f := range append(others(api.ICMP), api.Flow{Proto: api.ICMP, Src: host, Dst: far, From: 7}, api.Flow{Proto: api.ICMP, Src: host, Dst: far, To: 7}) {
				asks := api.Message{Type: 8, Rest: rest, Data: []byte(data)}
				says := api.Message{Type: 0, Rest: rest, Data: []byte(data)}
				asked, said := asks, says
				asked.Rest = uint32(f.From)<<16 | rest%65536
				said.Rest = uint32(f.To)<<16 | rest%65536
				rewrites(t, "a question", message(host, far, asks), f, message(f.Src, f.Dst, asked))
				rewrites(t, "an answer", message(host, far, says), f, message(f.Src, f.Dst, said))
			}
		}
	}
}

func TestP10_2ErrArg(t *testing.T) {
	all := map[string]inner{}
	for _, in := range inners() {
		all[in.name] = in
		all["an error of "+in.name] = inner{p: tells(host, raw(in.p)), f: in.f}
	}
	for name, in := range all {
		for proto := range 256 {
			f := api.Flow{Proto: byte(proto), Src: 1, Dst: 2, From: 3, To: 4}
			if _, err := flow.Rewrite(in.p, f); byte(proto) == in.f.Proto {
				if err != api.OK {
					t.Errorf("%s: Rewrite to %v: %v", name, f, err)
				}
			} else if q, err := flow.Rewrite(in.p, f); !samePacket(q, api.Packet{}) || err != api.ErrArg {
				t.Errorf("%s: Rewrite to %v: %v, %v", name, f, q, err)
			}
		}
	}
}

// What an error tells of becomes the packet as it is in the other flow, with all its check sums.
func TestP10_2ErrorTells(t *testing.T) {
	for _, in := range inners() {
		all := raw(in.p)
		for _, f := range others(in.f.Proto) {
			was, err := flow.Rewrite(in.p, flow.Turn(f))
			if err != api.OK {
				t.Fatalf("%s: %v", in.name, err)
			}
			whole := raw(was)
			for size := 28; size <= len(all); size++ {
				told := bytes.Clone(whole[:size])
				if in.f.Proto == api.TCP && size == 37 {
					told[36] = all[36] // Of a check sum of which but one byte is there nothing is told.
				}
				rewrites(t, fmt.Sprint(size, " bytes of ", in.name), tells(own, all[:size]), f, tells(own, told))
			}
		}
	}
}

// Of each kind of error all but what the chapter names stays: the type, the code, Rest, and what is behind.
func TestP10_2ErrorStays(t *testing.T) {
	for _, in := range inners() {
		was, _ := flow.Rewrite(in.p, api.Flow{Proto: in.f.Proto, Src: own, Dst: far, From: 1024, To: 1025})
		for _, kind := range []byte{3, 11, 12} {
			for _, code := range []byte{0, 4, 255} {
				m := api.Message{Type: kind, Code: code, Rest: 0x01020304, Data: append(raw(in.p), "behind it"...)}
				tells := m
				tells.Data = append(raw(was), "behind it"...)
				f := api.Flow{Proto: in.f.Proto, Src: far, Dst: own, From: 1025, To: 1024}
				rewrites(t, in.name, message(router, host, m), f, message(router, own, tells))
			}
		}
	}
}

// An error's own ends become others only where they are the flow's.
func TestP10_2ErrorEnds(t *testing.T) {
	in := inners()[1]
	f := api.Flow{Proto: api.UDP, Src: 0x0a000001, Dst: own, From: 53, To: 1024}
	for _, c := range []struct{ src, dst, isSrc, isDst api.Addr }{
		{far, host, f.Src, f.Dst},
		{router, host, router, f.Dst},
		{far, router, f.Src, router},
		{router, router, router, router},
		{host, far, host, far}, // in each other's place: neither is the flow's
		{host, host, host, f.Dst},
		{far, far, f.Src, far},
		{0, own, 0, own},
	} {
		p := tells(c.dst, raw(in.p))
		p.Src = c.src
		q, err := flow.Rewrite(p, f)
		if q.Src != c.isSrc || q.Dst != c.isDst || err != api.OK {
			t.Errorf("from %x to %x: from %x to %x, %v, not from %x to %x", c.src, c.dst, q.Src, q.Dst, err, c.isSrc, c.isDst)
		}
	}
}

// updated gives a check sum behind changes of numbers: told otherwise than the program works it out.
func updated(sum uint16, changes ...[2]uint16) uint16 {
	total := 65535 - int(sum)
	for _, c := range changes {
		total += 65535 - int(c[0]) + int(c[1])
	}
	if total == 0 {
		return 65535
	}
	return uint16((65535 - total%65535) % 65535)
}

// retold gives the Data of an error that told of was, and tells of is, byte by byte as the chapter tells it.
func retold(data []byte, was, is api.Flow) []byte {
	b := bytes.Clone(data)
	get := func(at int) uint16 { return uint16(b[at])<<8 | uint16(b[at+1]) }
	set := func(at int, n uint16) { b[at], b[at+1] = byte(n>>8), byte(n) }
	addrs := [][2]uint16{{uint16(was.Src >> 16), uint16(is.Src >> 16)}, {uint16(was.Src), uint16(is.Src)}, {uint16(was.Dst >> 16), uint16(is.Dst >> 16)}, {uint16(was.Dst), uint16(is.Dst)}}
	ports := [][2]uint16{{was.From, is.From}, {was.To, is.To}}
	set(10, updated(get(10), addrs...))
	for i, c := range addrs {
		set(12+2*i, c[1])
	}
	switch {
	case was.Proto == api.ICMP && b[20] == 8:
		set(22, updated(get(22), ports[0]))
		set(24, is.From)
		return b
	case was.Proto == api.ICMP:
		set(22, updated(get(22), ports[1]))
		set(24, is.To)
		return b
	case was.Proto == api.UDP && get(26) != 0:
		set(26, updated(get(26), append(addrs, ports...)...))
		if get(26) == 0 {
			set(26, 65535)
		}
	case was.Proto == api.TCP && len(b) >= 38:
		set(36, updated(get(36), append(addrs, ports...)...))
	}
	set(20, is.From)
	set(22, is.To)
	return b
}

// toNought gives the check sum that changes bring to 0, if one does.
func toNought(changes ...[2]uint16) (uint16, bool) {
	for sum := range 1 << 16 {
		if updated(uint16(sum), changes...) == 0 {
			return uint16(sum), true
		}
	}
	return 0, false
}

// What a check sum was plays no part but for layer 2's Update: each of them, right or wrong.
func TestP10_2ErrorSums(t *testing.T) {
	for _, in := range inners() {
		data := first(38, in.p)
		at := map[byte]int{api.TCP: 36, api.UDP: 26, api.ICMP: 22}[in.f.Proto]
		for _, f := range []api.Flow{others(in.f.Proto)[5], flow.Turn(in.f)} {
			for n := range 1 << 16 {
				if n > 300 && n < 65000 && n%7 != 0 {
					continue
				}
				b := bytes.Clone(data)
				b[10], b[11] = byte(n>>8), byte(n)
				b[at], b[at+1] = byte(n>>8), byte(n)
				rewrites(t, fmt.Sprintf("%s, the check sums %#x", in.name, n), tells(own, b), f, tells(moved(own, in.f.Src, f.Dst), retold(b, in.f, flow.Turn(f))))
			}
		}
	}
}

func moved(a, was, is api.Addr) api.Addr {
	if a == was {
		return is
	}
	return a
}

// A check sum that comes to 0 is told so, but that of UDP as 65535; one of UDP that is 0 stays so.
func TestP10_2ErrorNoughts(t *testing.T) {
	for _, in := range inners() {
		f := flow.Turn(api.Flow{Proto: in.f.Proto, Src: own, Dst: far, From: 1024, To: 1025})
		at := map[byte]int{api.TCP: 36, api.UDP: 26, api.ICMP: 22}[in.f.Proto]
		addrs := [][2]uint16{{0xc0a8, 0xcb00}, {0x0107, 0x7105}, {0x0808, 0x0808}, {0x0909, 0x0909}}
		changes := append(slices.Clone(addrs), [2]uint16{in.f.From, 1024}, [2]uint16{in.f.To, 1025})
		if in.name == "a question" {
			changes = changes[4:5]
		} else if in.name == "an answer" {
			changes = changes[5:]
		}
		inHead, ok := toNought(addrs...)
		inBody, also := toNought(changes...)
		if !ok || !also || inHead == 0 || inBody == 0 {
			t.Fatalf("%s: %t, %t, %#x, %#x", in.name, ok, also, inHead, inBody)
		}
		b := first(38, in.p)
		b[10], b[11], b[at], b[at+1] = byte(inHead>>8), byte(inHead), byte(inBody>>8), byte(inBody)
		q, err := flow.Rewrite(tells(host, b), f)
		if err != api.OK {
			t.Fatalf("%s: %v", in.name, err)
		}
		m, err := trans.ReadICMP(q.Body)
		if err != api.OK || len(m.Data) != len(b) {
			t.Fatalf("%s: %v, %v", in.name, m, err)
		}
		want := []byte{0, 0}
		if in.f.Proto == api.UDP {
			want = []byte{255, 255}
		}
		if !bytes.Equal(m.Data[10:12], []byte{0, 0}) || !bytes.Equal(m.Data[at:at+2], want) {
			t.Errorf("%s: %v and %v", in.name, m.Data[10:12], m.Data[at:at+2])
		}
	}
}

// A flow that stays is let through Update all the same: of 65535 it makes 0, if no number becomes another.
func TestP10_2ErrorSame(t *testing.T) {
	for _, in := range inners() {
		f := flow.Turn(in.f)
		all := raw(in.p)
		rewrites(t, in.name, tells(host, all), f, tells(host, all))
		b := with(with(all, 10, 255), 11, 255)
		rewrites(t, in.name+", the head's check sum 65535", tells(host, b), f, tells(host, with(with(b, 10, 0), 11, 0)))
	}
}

// Of TCP the check sum is there, if the error has 38 bytes of the packet.
func TestP10_2ErrorTCP(t *testing.T) {
	in := inners()[0]
	f := flow.Turn(api.Flow{Proto: api.TCP, Src: own, Dst: far, From: 1024, To: 53})
	for size := 28; size <= 40; size++ {
		b := first(size, in.p)
		q, _ := flow.Rewrite(tells(host, b), f)
		m, err := trans.ReadICMP(q.Body)
		if err != api.OK || len(m.Data) != size {
			t.Fatalf("%d bytes: %v, %v", size, m, err)
		}
		if mended := !bytes.Equal(m.Data[min(size, 36):], b[min(size, 36):]); mended != (size >= 38) {
			t.Errorf("%d bytes: the check sum is another: %t", size, mended)
		}
	}
}

// some gives a packet by chance: most are right, some aren't.
func some(r *rand.Rand) api.Packet {
	addr := func() api.Addr { return []api.Addr{host, far, own, router, api.Addr(r.Uint32())}[r.Intn(5)] }
	port := func() uint16 { return []uint16{0, 7, 5000, 65535, uint16(r.Uint32())}[r.Intn(5)] }
	data := make([]byte, r.Intn(50))
	r.Read(data)
	p := segment(addr(), addr(), api.Segment{From: port(), To: port(), Seq: r.Uint32(), Flags: byte(r.Uint32()), Opts: make([]byte, 4*r.Intn(11)), Data: data})
	switch r.Intn(3) {
	case 0:
		p = datagram(p.Src, p.Dst, api.Datagram{From: port(), To: port(), Plain: r.Intn(2) == 0, Data: data})
	case 1:
		p = message(p.Src, p.Dst, api.Message{Type: []byte{0, 8, 8, 3, 13}[r.Intn(5)], Rest: uint32(port())<<16 | 1, Data: data})
	}
	p.TTL, p.ID = byte(r.Uint32()), uint16(r.Uint32())
	if r.Intn(8) == 0 {
		p.Body = with(p.Body, r.Intn(len(p.Body)), byte(r.Uint32()))
	}
	if r.Intn(8) == 0 {
		p.Body = p.Body[:r.Intn(len(p.Body))]
	}
	return p
}

// someError gives an error that tells of some packet's beginning, by chance.
func someError(r *rand.Rand) api.Packet {
	p := some(r)
	b := raw(p)
	b = b[:min(len(b), 20+r.Intn(40))]
	if r.Intn(3) == 0 {
		b = with(b, r.Intn(len(b)), byte(r.Uint32()))
	}
	q := message(p.Dst, p.Src, api.Message{Type: []byte{3, 11, 12}[r.Intn(3)], Code: byte(r.Intn(3)), Rest: r.Uint32(), Data: b})
	if r.Intn(2) == 0 {
		q.Src = router
	}
	q.TTL, q.ID = byte(r.Uint32()), uint16(r.Uint32())
	return q
}

// What goes to other ends goes back by Rewrite to its own, as it was.
func TestP10_2ThereAndBack(t *testing.T) {
	r := rand.New(rand.NewSource(1))
	done := 0
	for i := range 20000 {
		p := some(r)
		if i%2 == 0 {
			p = someError(r)
		}
		f, kind, err := flow.Of(p)
		if err != api.OK {
			continue
		}
		g := api.Flow{Proto: f.Proto, Src: own + 7, Dst: far + 7, From: uint16(r.Uint32()), To: uint16(r.Uint32())}
		q, err := flow.Rewrite(p, g)
		if err != api.OK || q.TTL != p.TTL || q.ID != p.ID || q.Proto != p.Proto {
			t.Fatalf("Rewrite(%v, %v): %v, %v", p, g, q, err)
		}
		is, k, err := flow.Of(q)
		if f.Proto == api.ICMP && f.From == 0 { // The id stands in but one of both.
			g.From = is.From
		}
		if f.Proto == api.ICMP && f.To == 0 {
			g.To = is.To
		}
		if is != g || k != kind || err != api.OK {
			t.Fatalf("Of(Rewrite(%v, %v)): %v, %d, %v", p, g, is, k, err)
		}
		back, err := flow.Rewrite(q, f)
		if again, _, also := flow.Of(back); again != f || err != api.OK || also != api.OK {
			t.Fatalf("%v isn't back from %v: %v, %v, %v", f, g, again, err, also)
		}
		if kind != api.CarriesError { // The check sum 65535, in an error, may come back as 0.
			rewrites(t, "as layer 5 writes it", p, f, back)
		}
		done++
	}
	if done < 5000 {
		t.Errorf("only %d packets were right", done)
	}
}

func TestP10_2ErrorModel(t *testing.T) {
	r := rand.New(rand.NewSource(2))
	done := 0
	for range 30000 {
		p := someError(r)
		f, kind, err := flow.Of(p)
		if err != api.OK {
			continue
		}
		if kind != api.CarriesError {
			t.Fatalf("Of(%v): %d", p, kind)
		}
		done++
		g := api.Flow{Proto: f.Proto, Src: api.Addr(r.Uint32()), Dst: api.Addr(r.Uint32()), From: uint16(r.Uint32()), To: uint16(r.Uint32())}
		if r.Intn(2) == 0 {
			g.Src, g.From = f.Src, f.From
		}
		m, _ := trans.ReadICMP(p.Body)
		m.Data = retold(m.Data, flow.Turn(f), flow.Turn(g))
		want := message(moved(p.Src, f.Src, g.Src), moved(p.Dst, f.Dst, g.Dst), m)
		want.TTL, want.ID = p.TTL, p.ID
		rewrites(t, "an error", p, g, want)
	}
	if done < 5000 {
		t.Errorf("only %d errors were right", done)
	}
}

// By Proto, then Src, then From, then Dst, then To: each one with all that are told behind it.
func TestP10_3Order(t *testing.T) {
	rising := []api.Flow{
		{},
		{To: 1},
		{To: 65535},
		{Dst: 1},
		{Dst: 1, To: 65535},
		{Dst: 0x7fffffff},
		{Dst: 0x80000000},
		{Dst: 0xffffffff, To: 65535},
		{From: 1},
		{From: 1, Dst: 0xffffffff, To: 65535},
		{From: 255},
		{From: 256},
		{From: 65535, Dst: 0xffffffff, To: 65535},
		{Src: 1},
		{Src: 1, To: 1},
		{Src: 1, Dst: 0xffffffff},
		{Src: 1, From: 65535, Dst: 0xffffffff, To: 65535},
		{Src: 0x7fffffff},
		{Src: 0x80000000},
		{Src: 0xffffffff},
		{Src: 0xffffffff, From: 65535, Dst: 0xffffffff, To: 65535},
		{Proto: 1},
		{Proto: 1, Src: 0xffffffff, From: 65535, Dst: 0xffffffff, To: 65535},
		{Proto: 6},
		{Proto: 17},
		{Proto: 127, Src: 1},
		{Proto: 128},
		{Proto: 255},
	}
	for i, a := range rising {
		for j, b := range rising {
			if got := flow.Order(a, b); got < 0 != (i < j) || got > 0 != (i > j) {
				t.Errorf("Order(%v, %v): %d", a, b, got)
			}
		}
	}
}

// Only flows that are one come to 0.
func TestP10_3OrderSame(t *testing.T) {
	r := rand.New(rand.NewSource(3))
	small := func() api.Flow {
		return api.Flow{Proto: byte(r.Intn(2)), Src: api.Addr(r.Intn(2)), Dst: api.Addr(r.Intn(2)), From: uint16(r.Intn(2)), To: uint16(r.Intn(2))}
	}
	digits := func(f api.Flow) string { return fmt.Sprint(f.Proto, f.Src, f.From, f.Dst, f.To) }
	for range 5000 {
		a, b := small(), small()
		got := flow.Order(a, b)
		if got == 0 != (a == b) || got < 0 != (digits(a) < digits(b)) {
			t.Fatalf("Order(%v, %v): %d", a, b, got)
		}
	}
}

func TestP10_4ArgumentsUnchanged(t *testing.T) {
	for _, in := range inners() {
		for _, p := range []api.Packet{in.p, tells(host, raw(in.p)), tells(host, first(28, in.p))} {
			size := len(p.Body)
			room := append(bytes.Clone(p.Body), "spare room that is behind it"...)
			before := bytes.Clone(room)
			p.Body = room[:size]
			flow.Of(p)
			q, err := flow.Rewrite(p, api.Flow{Proto: in.f.Proto, Src: 1, Dst: 2, From: 3, To: 4})
			if err != api.OK {
				t.Fatal(err)
			}
			spoil(q.Body)
			flow.Rewrite(p, api.Flow{})
			if !bytes.Equal(room, before) {
				t.Errorf("%s: what was handed in is changed: %x, not %x", in.name, room, before)
			}
		}
	}
}

func TestP10_4AnswersAreNew(t *testing.T) {
	for _, in := range inners() {
		for _, p := range []api.Packet{in.p, tells(host, raw(in.p))} {
			for _, f := range append(others(in.f.Proto), in.f, flow.Turn(in.f)) {
				one, _ := flow.Rewrite(p, f)
				two, _ := flow.Rewrite(p, f)
				want := string(one.Body)
				spoil(two.Body)
				if string(one.Body) != want {
					t.Errorf("%s: two answers share memory", in.name)
				}
				spoil(one.Body)
				if three, _ := flow.Rewrite(p, f); string(three.Body) != want {
					t.Errorf("%s: an answer is kept", in.name)
				}
			}
		}
	}
}

func TestP10_4NothingIsKept(t *testing.T) {
	for _, in := range inners() {
		for _, p := range []api.Packet{in.p, tells(host, raw(in.p))} {
			p.Body = bytes.Clone(p.Body)
			f, _, _ := flow.Of(p)
			q, _ := flow.Rewrite(p, f)
			want := string(q.Body)
			spoil(p.Body)
			if string(q.Body) != want {
				t.Errorf("%s: what was handed in is kept", in.name)
			}
		}
	}
}

// drive does the calls that the numbers of seed choose, and tells what they answered.
func drive(seed int64) string {
	r := rand.New(rand.NewSource(seed))
	out := ""
	for range 20 {
		p := some(r)
		switch r.Intn(4) {
		case 0:
			p = someError(r)
		case 1: // Bytes without any form, in each size.
			p.Body, p.Proto = make([]byte, r.Intn(80)), byte(r.Intn(20))
			r.Read(p.Body)
		case 2: // An error of bytes without any form.
			b := make([]byte, r.Intn(60))
			r.Read(b)
			if len(b) > 9 && r.Intn(4) > 0 {
				b[0], b[6], b[7], b[9] = 0x45, 0, 0, []byte{1, 6, 17}[r.Intn(3)]
			}
			p = tells(host, b)
		}
		f, kind, err := flow.Of(p)
		g := api.Flow{Proto: []byte{f.Proto, byte(r.Intn(20))}[r.Intn(2)], Src: api.Addr(r.Uint32()), Dst: api.Addr(r.Uint32()), From: uint16(r.Uint32()), To: uint16(r.Uint32())}
		q, also := flow.Rewrite(p, g)
		out += fmt.Sprintln(f, kind, err, q, also, flow.Turn(f), flow.Order(f, g))
	}
	return out
}

// P1: no call panics; P2: two runs of the same calls give the same answers.
func TestP1P2Runs(t *testing.T) {
	for seed := range int64(1000) {
		if one, two := drive(seed), drive(seed); one != two {
			t.Fatalf("seed %d: two runs differ:\n%s\n%s", seed, one, two)
		}
	}
}
