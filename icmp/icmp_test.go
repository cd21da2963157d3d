package icmp_test

import (
	"bytes"
	"fmt"
	"math/rand"
	"testing"

	"hearth/api"
	"hearth/icmp"
	"hearth/inet"
	"hearth/trans"
)

// The signatures that the chapter lists.
var (
	_ func(api.Packet) bool                               = icmp.May
	_ func(own api.Addr, p api.Packet) (api.Packet, bool) = icmp.Exceeded
	_ func(api.Addr, api.Packet, byte) (api.Packet, bool) = icmp.Unreachable
	_ func(api.Packet) (api.Packet, bool)                 = icmp.Answer
)

const (
	host = 0xc0a80107
	far  = 0x08080808
	own  = 0xc0a80101
)

func packet(src, dst api.Addr, proto byte, body []byte) api.Packet {
	return api.Packet{TTL: 3, Proto: proto, ID: 0x7a7b, Src: src, Dst: dst, Body: body}
}

func datagram(src, dst api.Addr, data string) api.Packet {
	b, err := trans.WriteUDP(src, dst, api.Datagram{From: 5000, To: 53, Data: []byte(data)})
	return packet(src, dst, api.UDP, must(b, err))
}

func message(src, dst api.Addr, m api.Message) api.Packet {
	b, err := trans.WriteICMP(m)
	return packet(src, dst, api.ICMP, must(b, err))
}

func must(b []byte, err api.Errno) []byte {
	if err != api.OK {
		panic(err)
	}
	return b
}

// samePacket holds packets against one another; bodies without bytes are one with nil ones.
func samePacket(a, b api.Packet) bool { return fmt.Sprint(a) == fmt.Sprint(b) }

// with gives a copy of bytes in which one is another.
func with(b []byte, at int, n byte) []byte {
	b = bytes.Clone(b)
	b[at] = n
	return b
}

// checked gives the check sum of bytes: told otherwise than the program works it out.
func checked(b []byte) uint16 {
	total := 0
	for i, n := range b {
		total += int(n) << (8 * (1 - i%2))
	}
	return uint16((65535 - total%65535) % 65535)
}

// errorOf gives the error that tells of a packet, byte by byte.
func errorOf(from api.Addr, p api.Packet, kind, code byte) api.Packet {
	told := must(inet.Write(p))
	if len(told) > 28 {
		told = told[:28]
	}
	body := append([]byte{kind, code, 0, 0, 0, 0, 0, 0}, told...)
	check := checked(body)
	body[2], body[3] = byte(check>>8), byte(check)
	return api.Packet{TTL: 64, Proto: 1, Src: from, Dst: p.Src, Body: body}
}

// may holds May, and both calls that ask it, against what they should tell.
func may(t *testing.T, name string, p api.Packet, want bool) {
	t.Helper()
	if got := icmp.May(p); got != want {
		t.Errorf("%s: May: %t", name, got)
	}
	for _, from := range []api.Addr{own, 0, 0xffffffff} {
		var first, second api.Packet
		if want {
			first, second = errorOf(from, p, 11, 0), errorOf(from, p, 3, 13)
		}
		if q, ok := icmp.Exceeded(from, p); ok != want || !samePacket(q, first) {
			t.Errorf("%s: Exceeded: %v, %t, not %v", name, q, ok, first)
		}
		if q, ok := icmp.Unreachable(from, p, 13); ok != want || !samePacket(q, second) {
			t.Errorf("%s: Unreachable: %v, %t, not %v", name, q, ok, second)
		}
	}
}

// Of each protocol but ICMP, whatever its body is.
func TestP13_1Protos(t *testing.T) {
	for proto := range 256 {
		for _, size := range []int{0, 1, 7, 8, 20, 1480} {
			p := packet(host, far, byte(proto), make([]byte, size))
			if proto == api.ICMP && size > 0 {
				p.Body[0] = 3 // Its check sum isn't right either.
			}
			may(t, fmt.Sprint("protocol ", proto, ", ", size, " bytes"), p, proto != api.ICMP)
		}
	}
}

// Of messages only of questions and answers, whatever their codes are.
func TestP13_1Types(t *testing.T) {
	for kind := range 256 {
		for _, code := range []byte{0, 1, 255} {
			for _, data := range []string{"", "ping", "\x45 what might be told of a packet of which there is an error"} {
				p := message(host, far, api.Message{Type: byte(kind), Code: code, Rest: 0x01020304, Data: []byte(data)})
				may(t, fmt.Sprint("type ", kind, ", code ", code), p, kind == 0 || kind == 8)
			}
		}
	}
}

// Messages that layer 5 can't read.
func TestP13_1Messages(t *testing.T) {
	p := message(host, far, api.Message{Type: 8, Rest: 7, Data: []byte("ping")})
	may(t, "a right one", p, true)
	for size := range 8 {
		q := p
		q.Body = p.Body[:size]
		may(t, fmt.Sprint(size, " bytes"), q, false)
		q.Body = make([]byte, size)
		may(t, fmt.Sprint(size, " noughts"), q, false)
	}
	for at := range p.Body {
		q := p
		q.Body = with(p.Body, at, p.Body[at]^1)
		may(t, fmt.Sprint("the byte ", at), q, false)
	}
}

// Each of the upper four bits, of both addresses, with all others 0 and 1; and those near the two that are named.
func TestP13_1Addresses(t *testing.T) {
	for upper := range api.Addr(16) {
		for _, a := range []api.Addr{upper << 28, upper<<28 | 1, upper<<28 | 0x0fffffff, upper<<28 | 0x0ffffffe} {
			right := upper < 14 && a != 0
			may(t, fmt.Sprintf("from %08x", uint32(a)), datagram(a, far, "data"), right)
			right = upper != 14 && a != 0xffffffff
			may(t, fmt.Sprintf("to %08x", uint32(a)), datagram(host, a, "data"), right)
			may(t, fmt.Sprintf("from and to %08x", uint32(a)), datagram(a, a, "data"), upper < 14 && a != 0)
			may(t, fmt.Sprintf("a question to %08x", uint32(a)), message(host, a, api.Message{Type: 8}), right)
		}
	}
}

// What layer 4 can't write.
func TestP13_1Long(t *testing.T) {
	for _, size := range []int{0, 1, 1479, 1480, 1481, 65535, 65536, 70000} {
		for _, proto := range []byte{0, api.TCP, api.UDP, 255} {
			may(t, fmt.Sprint(size, " bytes"), packet(host, far, proto, make([]byte, size)), size <= 1480)
		}
	}
	long := message(host, far, api.Message{Type: 8, Data: make([]byte, 1472)})
	may(t, "the longest message", long, true)
	long.Body = append(long.Body, 0, 0)
	may(t, "a longer one", long, false)
}

// TTL and ID play no part.
func TestP13_1PlaysNoPart(t *testing.T) {
	for _, n := range []uint16{0, 1, 255, 65535} {
		p := datagram(host, far, "data")
		p.TTL, p.ID = byte(n), n
		may(t, fmt.Sprint(n), p, true)
	}
}

// The chapter's example.
func TestP13_2Example(t *testing.T) {
	q, ok := icmp.Exceeded(own, datagram(host, far, ""))
	if !ok || q.Src != own || q.Dst != host {
		t.Fatalf("%v, %t", q, ok)
	}
	if b, err := inet.Write(q); len(b) != 56 || err != api.OK {
		t.Errorf("%d bytes in all, %v", len(b), err)
	}
}

// The first 28 bytes, or all.
func TestP13_2Sizes(t *testing.T) {
	for size := range 40 {
		p := packet(host, far, 99, bytes.Repeat([]byte{7, 9}, 20)[:size])
		may(t, fmt.Sprint(size), p, true)
		q, _ := icmp.Unreachable(own, p, 5)
		m, err := trans.ReadICMP(q.Body)
		if err != api.OK || m.Type != 3 || m.Code != 5 || m.Rest != 0 || len(m.Data) != min(20+size, 28) {
			t.Errorf("%d bytes: %v, %v", size, m, err)
		}
		if whole := must(inet.Write(p)); !bytes.HasPrefix(whole, m.Data) {
			t.Errorf("%d bytes: %x of %x", size, m.Data, whole)
		}
	}
}

func TestP13_2Codes(t *testing.T) {
	p := datagram(host, far, "data")
	for code := range 256 {
		want := errorOf(own, p, 3, byte(code))
		if q, ok := icmp.Unreachable(own, p, byte(code)); !ok || !samePacket(q, want) {
			t.Errorf("code %d: %v, %t, not %v", code, q, ok, want)
		}
	}
	m, err := trans.ReadICMP(errorOf(own, p, 11, 0).Body)
	if err != api.OK || m.Type != 11 || m.Code != 0 {
		t.Errorf("the error that is wanted: %v, %v", m, err)
	}
}

// No error of an error, nor of what isn't a message that can be read.
func TestP13_2OfErrors(t *testing.T) {
	p := datagram(host, far, "data")
	one, _ := icmp.Exceeded(own, p)
	two, _ := icmp.Unreachable(own, p, 1)
	may(t, "of Exceeded", one, false)
	may(t, "of Unreachable", two, false)
}

func TestP13_3Answer(t *testing.T) {
	for _, size := range []int{0, 1, 4, 28, 1471, 1472} {
		for _, rest := range []uint32{0, 77, 0x01020304, 0xffffffff} {
			for _, ends := range [][2]api.Addr{{host, own}, {0, 0xffffffff}, {0xe0000001, 0}} {
				data := bytes.Repeat([]byte("ping"), size/4+1)[:size]
				p := message(ends[0], ends[1], api.Message{Type: 8, Rest: rest, Data: data})
				want := api.Packet{TTL: 64, Proto: api.ICMP, ID: p.ID, Src: ends[1], Dst: ends[0], Body: must(trans.WriteICMP(api.Message{Rest: rest, Data: data}))}
				if q, ok := icmp.Answer(p); !ok || !samePacket(q, want) {
					t.Errorf("%v, %t, not %v", q, ok, want)
				}
			}
		}
	}
	p := message(host, own, api.Message{Type: 8})
	for _, id := range []uint16{0, 1, 65535} {
		p.TTL, p.ID = byte(id), id
		if q, ok := icmp.Answer(p); !ok || q.TTL != 64 || q.ID != id {
			t.Errorf("%v, %t", q, ok)
		}
	}
}

func noAnswer(t *testing.T, name string, p api.Packet) {
	t.Helper()
	if q, ok := icmp.Answer(p); ok || !samePacket(q, api.Packet{}) {
		t.Errorf("%s: %v, %t", name, q, ok)
	}
}

func TestP13_3Wrong(t *testing.T) {
	for kind := range 256 {
		for code := range 256 {
			if kind != 8 || code != 0 {
				noAnswer(t, fmt.Sprint("type ", kind, ", code ", code), message(host, own, api.Message{Type: byte(kind), Code: byte(code), Rest: 7, Data: []byte("ping")}))
			}
		}
	}
	p := message(host, own, api.Message{Type: 8, Rest: 7, Data: []byte("ping")})
	for proto := range 256 {
		if proto != api.ICMP {
			noAnswer(t, fmt.Sprint("protocol ", proto), packet(host, own, byte(proto), p.Body))
		}
	}
	for at := range p.Body {
		noAnswer(t, fmt.Sprint("the byte ", at), packet(host, own, api.ICMP, with(p.Body, at, p.Body[at]^1)))
	}
	for size := range 8 {
		noAnswer(t, fmt.Sprint(size, " bytes"), packet(host, own, api.ICMP, p.Body[:size]))
	}
	long := must(trans.WriteICMP(api.Message{Type: 8, Data: make([]byte, 1472)}))
	noAnswer(t, "much", packet(host, own, api.ICMP, append(long, 0, 0)))
	noAnswer(t, "nothing", api.Packet{Proto: api.ICMP})
	noAnswer(t, "nothing", api.Packet{})
}

// An answer has none.
func TestP13_3AnswersAnswer(t *testing.T) {
	q, _ := icmp.Answer(message(host, own, api.Message{Type: 8}))
	noAnswer(t, "an answer", q)
}

// calls are those that give a packet.
var calls = map[string]func(api.Packet) (api.Packet, bool){
	"Exceeded":    func(p api.Packet) (api.Packet, bool) { return icmp.Exceeded(own, p) },
	"Unreachable": func(p api.Packet) (api.Packet, bool) { return icmp.Unreachable(own, p, 1) },
	"Answer":      icmp.Answer,
	"May":         func(p api.Packet) (api.Packet, bool) { return p, icmp.May(p) },
}

// What is handed in isn't changed, its spare room neither.
func TestP13_4Arguments(t *testing.T) {
	for _, data := range []string{"", "ping", "a longer one than what is told of a packet"} {
		for name, call := range calls {
			p := message(host, own, api.Message{Type: 8, Rest: 7, Data: []byte(data)})
			p.Body = append(make([]byte, 0, 200), p.Body...)
			was := bytes.Clone(p.Body[:200])
			if _, ok := call(p); !ok || !bytes.Equal(p.Body[:200], was) {
				t.Errorf("%s: %t, %x", name, ok, p.Body[:200])
			}
		}
	}
}

// Answers share no memory, their spare room neither, with what is handed in, nor with one another.
func TestP13_4Answers(t *testing.T) {
	for name, call := range calls {
		if name == "May" {
			continue
		}
		p := message(host, own, api.Message{Type: 8, Rest: 7, Data: []byte("ping")})
		one, _ := call(p)
		two, _ := call(p)
		was := bytes.Clone(one.Body)
		for _, other := range [][]byte{p.Body, two.Body} {
			other = other[:cap(other)]
			for i := range other {
				other[i] ^= 0xee
			}
		}
		if !bytes.Equal(one.Body, was) {
			t.Errorf("%s: %x became %x", name, was, one.Body)
		}
	}
}

// P1, P2: no call panics, and two tell the same.
func TestP1P2Runs(t *testing.T) {
	r := rand.New(rand.NewSource(1))
	for range 20000 {
		b := make([]byte, r.Intn(70))
		r.Read(b)
		if len(b) >= 8 && r.Intn(2) == 0 {
			b = must(trans.WriteICMP(api.Message{Type: b[0] & 11, Code: b[1] & 1, Data: b[8:]}))
		}
		p := api.Packet{TTL: byte(r.Uint32()), Proto: byte(r.Uint32() & 3), ID: uint16(r.Uint32()), Src: api.Addr(r.Uint32()), Dst: api.Addr(r.Uint32()), Body: b}
		for name, call := range calls {
			one, ok := call(p)
			if two, again := call(p); ok != again || !samePacket(one, two) {
				t.Fatalf("%s of %v: %v, %t, then %v, %t", name, p, one, ok, two, again)
			}
		}
	}
}
