package trans_test

import (
	"bytes"
	"fmt"
	"math/rand"
	"reflect"
	"strings"
	"testing"

	"hearth/api"
	"hearth/trans"
)

// The signatures that the chapter lists.
var (
	_ func(api.Addr, api.Addr, api.Segment) ([]byte, api.Errno)  = trans.WriteTCP
	_ func(api.Addr, api.Addr, []byte) (api.Segment, api.Errno)  = trans.ReadTCP
	_ func(api.Addr, api.Addr, api.Datagram) ([]byte, api.Errno) = trans.WriteUDP
	_ func(api.Addr, api.Addr, []byte) (api.Datagram, api.Errno) = trans.ReadUDP
	_ func(api.Message) ([]byte, api.Errno)                      = trans.WriteICMP
	_ func([]byte) (api.Message, api.Errno)                      = trans.ReadICMP
)

const (
	here  = 0xc0a80107
	there = 0x08080808
)

// The places of the check sums.
const (
	atTCP  = 16
	atUDP  = 6
	atICMP = 2
)

// Ones of which the check sums are known (0xfaa3, 0xd685, 0x4d5a), and their bytes.
var (
	segment = api.Segment{From: 80, To: 4000, Seq: 0x81020304, Ack: 0x11223344, Flags: api.SYN | api.ACK, Window: 1000, Urgent: 0x5566,
		Opts: []byte{2, 4, 5, 180, 1, 1, 4, 2}, Data: []byte("odd")}
	datagram = api.Datagram{From: 5000, To: 53, Data: []byte("hello")}
	message  = api.Message{Type: 8, Rest: 0x00010001, Data: []byte("abcdefghijklmnopqrstuvwabcdefghi")}
)

const (
	segmentText  = "\x00\x50\x0f\xa0" + "\x81\x02\x03\x04\x11\x22\x33\x44" + "\x70\x12\x03\xe8\xfa\xa3\x55\x66" + "\x02\x04\x05\xb4\x01\x01\x04\x02" + "odd"
	datagramText = "\x13\x88\x00\x35\x00\x0d\xd6\x85" + "hello"
	messageText  = "\x08\x00\x4d\x5a\x00\x01\x00\x01" + "abcdefghijklmnopqrstuvwabcdefghi"
)

// The addresses that segmentText goes between.
const (
	server = 0xc0a80101
	client = 0xc0a80107
)

// checked gives the check sum of bytes: told otherwise than the program works it out.
func checked(parts ...[]byte) uint16 {
	total := 0
	for i, b := range bytes.Join(parts, nil) {
		total += int(b) << (8 * (1 - i%2))
	}
	if total == 0 {
		return 65535
	}
	return uint16((65535 - total%65535) % 65535)
}

// pseudo gives the bytes of a pseudo head.
func pseudo(src, dst uint32, proto byte, size int) []byte {
	return []byte{byte(src >> 24), byte(src >> 16), byte(src >> 8), byte(src), byte(dst >> 24), byte(dst >> 16), byte(dst >> 8), byte(dst),
		0, proto, byte(size >> 8), byte(size)}
}

// put lays a check sum, worked out with noughts in its place, there.
func put(b []byte, at int, ahead []byte) []byte {
	b[at], b[at+1] = 0, 0
	check := checked(ahead, b)
	b[at], b[at+1] = byte(check>>8), byte(check)
	return b
}

// sealTCP lays the right check sum between here and there.
func sealTCP(b []byte) []byte { return put(b, atTCP, pseudo(here, there, 6, len(b))) }

// sealUDP does so for the first bytes, as many as they tell.
func sealUDP(b []byte) []byte {
	size := int(b[4])*256 + int(b[5])
	put(b[:size:size], atUDP, pseudo(here, there, 17, size))
	return b
}

func sealICMP(b []byte) []byte { return put(b, atICMP, nil) }

// madeTCP gives a right segment of so many bytes, of which the head takes 4 times words.
func madeTCP(size, words int) []byte {
	b := make([]byte, size)
	for i := range b {
		b[i] = byte(i*7 + 1)
	}
	b[12] = byte(words << 4)
	return sealTCP(b)
}

// madeUDP gives a right datagram of so many bytes, with so many behind it.
func madeUDP(size, behind int) []byte {
	b := make([]byte, size+behind)
	for i := range b {
		b[i] = byte(i*7 + 1)
	}
	b[4], b[5] = byte(size>>8), byte(size)
	return sealUDP(b)
}

// madeICMP gives a right message of so many bytes.
func madeICMP(size int) []byte {
	b := make([]byte, size)
	for i := range b {
		b[i] = byte(i*7 + 1)
	}
	return sealICMP(b)
}

// same holds two answers against one another; lists without elements are one with nil ones.
func same(a, b any) bool { return fmt.Sprintf("%#v", a) == fmt.Sprintf("%#v", b) }

func sameSegment(a, b api.Segment) bool {
	lists := bytes.Equal(a.Opts, b.Opts) && bytes.Equal(a.Data, b.Data)
	a.Opts, a.Data, b.Opts, b.Data = nil, nil, nil, nil
	return lists && same(a, b)
}

func sameDatagram(a, b api.Datagram) bool {
	lists := bytes.Equal(a.Data, b.Data)
	a.Data, b.Data = nil, nil
	return lists && same(a, b)
}

func sameMessage(a, b api.Message) bool {
	lists := bytes.Equal(a.Data, b.Data)
	a.Data, b.Data = nil, nil
	return lists && same(a, b)
}

// spoil writes over all of b's room, the spare one too.
func spoil(b []byte) {
	b = b[:cap(b)]
	for i := range b {
		b[i] = 0xee
	}
}

func wrongTCP(t *testing.T, name string, b []byte, want api.Errno) {
	t.Helper()
	if got, err := trans.ReadTCP(here, there, b); !reflect.DeepEqual(got, api.Segment{}) || err != want {
		t.Errorf("%s: %v, %v, not %v", name, got, err, want)
	}
}

func wrongUDP(t *testing.T, name string, b []byte, want api.Errno) {
	t.Helper()
	if got, err := trans.ReadUDP(here, there, b); !reflect.DeepEqual(got, api.Datagram{}) || err != want {
		t.Errorf("%s: %v, %v, not %v", name, got, err, want)
	}
}

func wrongICMP(t *testing.T, name string, b []byte, want api.Errno) {
	t.Helper()
	if got, err := trans.ReadICMP(b); !reflect.DeepEqual(got, api.Message{}) || err != want {
		t.Errorf("%s: %v, %v, not %v", name, got, err, want)
	}
}

func TestP5_1WriteTCP(t *testing.T) {
	if got, err := trans.WriteTCP(server, client, segment); string(got) != segmentText || err != api.OK {
		t.Errorf("WriteTCP: %x, %v", got, err)
	}
	want := put([]byte("\x01\x02\x03\x04\x05\x06\x07\x08\x09\x0a\x0b\x0c\x50\xff\x0d\x0e??\x0f\x10"), atTCP, pseudo(0x11121314, 0x21222324, 6, 20))
	for _, none := range [][]byte{nil, {}} {
		s := api.Segment{From: 0x0102, To: 0x0304, Seq: 0x05060708, Ack: 0x090a0b0c, Flags: 255, Window: 0x0d0e, Urgent: 0x0f10, Opts: none, Data: none}
		if got, err := trans.WriteTCP(0x11121314, 0x21222324, s); !bytes.Equal(got, want) || err != api.OK {
			t.Errorf("WriteTCP without Opts and Data: %x, not %x, %v", got, want, err)
		}
	}
	want = put([]byte("\x00\x00\x00\x00\x00\x00\x00\x00\x00\x00\x00\x00\x50\x00\x00\x00??\x00\x00"), atTCP, pseudo(0, 0, 6, 20))
	if got, err := trans.WriteTCP(0, 0, api.Segment{}); !bytes.Equal(got, want) || err != api.OK {
		t.Errorf("WriteTCP of noughts: %x, not %x, %v", got, want, err)
	}
}

// The head's size is told in its upper four bits, and those beside it are 0.
func TestP5_1WriteTCPHead(t *testing.T) {
	for words := range 11 {
		opts := bytes.Repeat([]byte{9, 8, 7, 6}, words)
		for _, data := range []string{"", "d", "da"} {
			b, err := trans.WriteTCP(here, there, api.Segment{Seq: 1, Opts: opts, Data: []byte(data)})
			if len(b) != 20+4*words+len(data) || err != api.OK {
				t.Fatalf("%d times 4 bytes of Opts: %d bytes, %v", words, len(b), err)
			}
			if int(b[12]) != 16*(5+words) || !bytes.Equal(b[20:20+4*words], opts) || string(b[20+4*words:]) != data {
				t.Errorf("%d times 4 bytes of Opts: %x", words, b)
			}
			if !bytes.Equal(b, sealTCP(bytes.Clone(b))) {
				t.Errorf("the check sum of %x", b)
			}
		}
	}
}

func TestP5_1WriteTCPWrong(t *testing.T) {
	for size := range 200 {
		want := api.OK
		if size > 40 || size%4 != 0 {
			want = api.ErrArg
		}
		got, err := trans.WriteTCP(1, 2, api.Segment{Opts: make([]byte, size)})
		if err != want || (want == api.OK) != (len(got) == 20+size) || want != api.OK && len(got) != 0 {
			t.Errorf("%d bytes of Opts: %d bytes, %v, not %v", size, len(got), err, want)
		}
	}
	for _, c := range []struct {
		opts, data int
		want       api.Errno
	}{
		{0, 1459, api.OK}, {0, 1460, api.OK}, {0, 1461, api.ErrLong}, {0, 1480, api.ErrLong}, {0, 65516, api.ErrLong}, {0, 65536, api.ErrLong}, {0, 70000, api.ErrLong},
		{4, 1456, api.OK}, {4, 1457, api.ErrLong}, {4, 1460, api.ErrLong},
		{40, 1420, api.OK}, {40, 1421, api.ErrLong}, {40, 1460, api.ErrLong},
		{3, 1500, api.ErrArg}, {44, 1460, api.ErrArg}, {41, 70000, api.ErrArg}, {70000, 0, api.ErrArg}, {256, 0, api.ErrArg},
	} {
		got, err := trans.WriteTCP(1, 2, api.Segment{Opts: make([]byte, c.opts), Data: make([]byte, c.data)})
		if err != c.want || err == api.OK && len(got) != 20+c.opts+c.data || err != api.OK && len(got) != 0 {
			t.Errorf("%d of Opts, %d of Data: %d bytes, %v, not %v", c.opts, c.data, len(got), err, c.want)
		}
	}
}

// A segment's check sum of 0 stays 0.
func TestP5_1WriteTCPSumNought(t *testing.T) {
	s := api.Segment{From: 1, To: 2, Seq: 3, Data: []byte("abc")}
	b, _ := trans.WriteTCP(here, there, s)
	s.Urgent = uint16(b[16])<<8 | uint16(b[17])
	got, err := trans.WriteTCP(here, there, s)
	if err != api.OK || got[16] != 0 || got[17] != 0 {
		t.Fatalf("WriteTCP: %x, %v", got, err)
	}
	if back, err := trans.ReadTCP(here, there, got); !sameSegment(back, s) || err != api.OK {
		t.Errorf("ReadTCP: %v, %v", back, err)
	}
}

func TestP5_1WriteUDP(t *testing.T) {
	if got, err := trans.WriteUDP(here, there, datagram); string(got) != datagramText || err != api.OK {
		t.Errorf("WriteUDP: %x, %v", got, err)
	}
	for _, none := range [][]byte{nil, {}} {
		if got, err := trans.WriteUDP(here, there, api.Datagram{From: 68, To: 67, Plain: true, Data: none}); string(got) != "\x00\x44\x00\x43\x00\x08\x00\x00" || err != api.OK {
			t.Errorf("WriteUDP of a Plain one: %x, %v", got, err)
		}
		want := put([]byte("\x00\x44\x00\x43\x00\x08??"), atUDP, pseudo(here, there, 17, 8))
		if got, err := trans.WriteUDP(here, there, api.Datagram{From: 68, To: 67, Data: none}); !bytes.Equal(got, want) || err != api.OK {
			t.Errorf("WriteUDP without Data: %x, not %x, %v", got, want, err)
		}
	}
	plain := api.Datagram{From: 0x1234, To: 0xabcd, Plain: true, Data: []byte("xyz")}
	if got, err := trans.WriteUDP(here, there, plain); string(got) != "\x12\x34\xab\xcd\x00\x0b\x00\x00xyz" || err != api.OK {
		t.Errorf("WriteUDP of a Plain one: %x, %v", got, err)
	}
}

func TestP5_1WriteLong(t *testing.T) {
	data := make([]byte, 70000)
	for _, size := range []int{0, 1, 247, 248, 1471, 1472, 1473, 1480, 1481, 65528, 65536, 70000} {
		want := api.OK
		if 8+size > 1480 {
			want = api.ErrLong
		}
		for _, plain := range []bool{false, true} {
			got, err := trans.WriteUDP(here, there, api.Datagram{Plain: plain, Data: data[:size]})
			if err != want || err != api.OK && len(got) != 0 {
				t.Errorf("WriteUDP of %d bytes: %d bytes, %v, not %v", size, len(got), err, want)
			} else if err == api.OK && (len(got) != 8+size || int(got[4])*256+int(got[5]) != 8+size) {
				t.Errorf("WriteUDP of %d bytes: %d bytes, told as %x", size, len(got), got[4:6])
			}
		}
		got, err := trans.WriteICMP(api.Message{Data: data[:size]})
		if err != want || err == api.OK && len(got) != 8+size || err != api.OK && len(got) != 0 {
			t.Errorf("WriteICMP of %d bytes: %d bytes, %v, not %v", size, len(got), err, want)
		}
	}
}

// A datagram's check sum of 0 is told as 65535.
func TestP5_1WriteUDPSumNought(t *testing.T) {
	d := api.Datagram{From: 7, To: 9, Data: []byte("ab\x00\x00")}
	b, _ := trans.WriteUDP(here, there, d)
	d.Data[2], d.Data[3] = b[6], b[7]
	got, err := trans.WriteUDP(here, there, d)
	if err != api.OK || got[6] != 255 || got[7] != 255 {
		t.Fatalf("WriteUDP: %x, %v", got, err)
	}
	if back, err := trans.ReadUDP(here, there, got); !sameDatagram(back, d) || err != api.OK {
		t.Errorf("ReadUDP: %v, %v", back, err)
	}
	d.Plain = true
	if got, err := trans.WriteUDP(here, there, d); err != api.OK || got[6] != 0 || got[7] != 0 {
		t.Errorf("WriteUDP of a Plain one: %x, %v", got, err)
	}
}

func TestP5_1WriteICMP(t *testing.T) {
	if got, err := trans.WriteICMP(message); string(got) != messageText || err != api.OK {
		t.Errorf("WriteICMP: %x, %v", got, err)
	}
	for _, none := range [][]byte{nil, {}} {
		want := put([]byte("\xa1\xb2??\x01\x02\x03\x04"), atICMP, nil)
		if got, err := trans.WriteICMP(api.Message{Type: 0xa1, Code: 0xb2, Rest: 0x01020304, Data: none}); !bytes.Equal(got, want) || err != api.OK {
			t.Errorf("WriteICMP without Data: %x, not %x, %v", got, want, err)
		}
		if got, err := trans.WriteICMP(api.Message{Data: none}); string(got) != "\x00\x00\xff\xff\x00\x00\x00\x00" || err != api.OK {
			t.Errorf("WriteICMP of noughts: %x, %v", got, err)
		}
	}
	if got, err := trans.WriteICMP(api.Message{Type: 255, Code: 255}); string(got) != "\xff\xff\x00\x00\x00\x00\x00\x00" || err != api.OK {
		t.Errorf("WriteICMP of a check sum of 0: %x, %v", got, err)
	}
}

func TestP5_2ReadTCP(t *testing.T) {
	if got, err := trans.ReadTCP(server, client, []byte(segmentText)); !sameSegment(got, segment) || err != api.OK {
		t.Errorf("ReadTCP: %v, %v", got, err)
	}
	for _, size := range []int{20, 21, 24, 59, 60, 61, 300, 1479, 1480} {
		for words := 5; words <= 15 && 4*words <= size; words++ {
			b := madeTCP(size, words)
			want := api.Segment{From: 0x0108, To: 0x0f16, Seq: 0x1d242b32, Ack: 0x3940474e, Flags: 0x5c, Window: 0x636a, Urgent: 0x7f86,
				Opts: b[20 : 4*words], Data: b[4*words:]}
			if got, err := trans.ReadTCP(here, there, b); !sameSegment(got, want) || err != api.OK {
				t.Errorf("ReadTCP of %d bytes, %d words: %v, not %v, %v", size, words, got, want, err)
			}
		}
	}
}

// What plays no part: the four bits beside the head's size.
func TestP5_2ReadTCPPlaysNoPart(t *testing.T) {
	want, _ := trans.ReadTCP(here, there, madeTCP(33, 7))
	if len(want.Opts) != 8 || len(want.Data) != 5 {
		t.Fatalf("Opts of %d bytes, Data of %d", len(want.Opts), len(want.Data))
	}
	for beside := range byte(16) {
		b := madeTCP(33, 7)
		b[12] |= beside
		if got, err := trans.ReadTCP(here, there, sealTCP(b)); !sameSegment(got, want) || err != api.OK {
			t.Errorf("%d beside the head's size: %v, %v", beside, got, err)
		}
	}
}

func TestP5_2ReadTCPSize(t *testing.T) {
	wrongTCP(t, "nil", nil, api.ErrShort)
	for size := range 20 {
		wrongTCP(t, fmt.Sprint("a right one's first ", size), madeTCP(20, 5)[:size], api.ErrShort)
		wrongTCP(t, fmt.Sprint("noughts: ", size), make([]byte, size), api.ErrShort)
	}
	for _, size := range []int{1481, 1482, 1500, 65535, 65536, 70000} {
		wrongTCP(t, fmt.Sprint(size, " bytes"), madeTCP(size, 5), api.ErrLong)
	}
}

func TestP5_2ReadTCPForm(t *testing.T) {
	for _, size := range []int{20, 23, 24, 25, 39, 40, 41, 59, 60, 1480} {
		for words := range 16 {
			b := madeTCP(size, words)
			if words < 5 || 4*words > size {
				wrongTCP(t, fmt.Sprintf("%d words of %d bytes", words, size), b, api.ErrForm)
			} else if got, err := trans.ReadTCP(here, there, b); len(got.Opts) != 4*words-20 || len(got.Data) != size-4*words || err != api.OK {
				t.Errorf("%d words of %d bytes: %v, %v", words, size, got, err)
			}
		}
	}
}

func TestP5_2ReadTCPSum(t *testing.T) {
	for i := range 31 {
		for bit := range 8 {
			if i == 12 && bit > 3 {
				continue // The head's size.
			}
			b := madeTCP(31, 6)
			b[i] ^= 1 << bit
			wrongTCP(t, fmt.Sprintf("the bit %d of byte %d", bit, i), b, api.ErrSum)
		}
	}
	b := madeTCP(31, 6)
	for bit := range 32 {
		for _, ends := range [][2]api.Addr{{here ^ 1<<bit, there}, {here, there ^ 1<<bit}} {
			if got, err := trans.ReadTCP(ends[0], ends[1], b); !reflect.DeepEqual(got, api.Segment{}) || err != api.ErrSum {
				t.Errorf("between %x and %x: %v, %v", uint32(ends[0]), uint32(ends[1]), got, err)
			}
		}
	}
	if got, err := trans.ReadTCP(there, here, b); err != api.OK {
		t.Errorf("the addresses in each other's place: %v, %v", got, err)
	}
	wrongTCP(t, "without a pseudo head", put(madeTCP(31, 6), atTCP, nil), api.ErrSum)
	wrongTCP(t, "another protocol's", put(madeTCP(31, 6), atTCP, pseudo(here, there, 17, 31)), api.ErrSum)
	wrongTCP(t, "of fewer bytes", put(madeTCP(31, 6), atTCP, pseudo(here, there, 6, 24)), api.ErrSum)
	b = madeTCP(31, 6)
	b[16], b[17] = 0, 0
	wrongTCP(t, "none", b, api.ErrSum)
	wrongTCP(t, "cut", madeTCP(31, 6)[:30], api.ErrSum)
}

// Where several errors apply, the answer is the one named first.
func TestP5_2ReadTCPOrder(t *testing.T) {
	lay := func(size, words int) []byte {
		b := madeTCP(max(size, 20), words)
		b[3] ^= 1
		return b[:size]
	}
	wrongTCP(t, "short, all else wrong", lay(19, 4), api.ErrShort)
	wrongTCP(t, "long, all else wrong", lay(1481, 4), api.ErrLong)
	wrongTCP(t, "form ahead of sum", lay(30, 4), api.ErrForm)
	wrongTCP(t, "form ahead of sum", lay(30, 8), api.ErrForm)
	wrongTCP(t, "sum", lay(30, 7), api.ErrSum)
}

func TestP5_3ReadUDP(t *testing.T) {
	if got, err := trans.ReadUDP(here, there, []byte(datagramText)); !sameDatagram(got, datagram) || err != api.OK {
		t.Errorf("ReadUDP: %v, %v", got, err)
	}
	for _, c := range [][2]int{{8, 0}, {9, 0}, {8, 1}, {9, 1}, {8, 1472}, {255, 0}, {256, 7}, {257, 0}, {1479, 1}, {1480, 0}} {
		b := madeUDP(c[0], c[1])
		want := api.Datagram{From: 0x0108, To: 0x0f16, Data: b[8:c[0]]}
		if got, err := trans.ReadUDP(here, there, b); !sameDatagram(got, want) || err != api.OK {
			t.Errorf("ReadUDP of %d bytes and %d behind: %v, %v", c[0], c[1], got, err)
		}
		b[6], b[7], want.Plain = 0, 0, true
		for _, ends := range [][2]api.Addr{{here, there}, {there, here + 1}, {0, 0}} {
			if got, err := trans.ReadUDP(ends[0], ends[1], b); !sameDatagram(got, want) || err != api.OK {
				t.Errorf("ReadUDP of a Plain one of %d bytes and %d behind: %v, %v", c[0], c[1], got, err)
			}
		}
	}
	if got, err := trans.ReadUDP(1, 2, []byte("\x00\x44\x00\x43\x00\x08\x00\x00")); !sameDatagram(got, api.Datagram{From: 68, To: 67, Plain: true}) || err != api.OK {
		t.Errorf("ReadUDP: %v, %v", got, err)
	}
}

// What plays no part: the bytes behind those that are told, in the check sum and the pseudo head too.
func TestP5_3ReadUDPPlaysNoPart(t *testing.T) {
	for _, size := range []int{8, 13, 14} {
		want, _ := trans.ReadUDP(here, there, madeUDP(size, 0))
		for behind := range 20 {
			b := madeUDP(size, behind)
			for i := size; i < len(b); i++ {
				b[i] = 0xff
			}
			if got, err := trans.ReadUDP(here, there, b); !sameDatagram(got, want) || err != api.OK {
				t.Errorf("%d bytes and %d behind: %v, %v", size, behind, got, err)
			}
		}
	}
}

func TestP5_3ReadUDPSize(t *testing.T) {
	wrongUDP(t, "nil", nil, api.ErrShort)
	for size := range 8 {
		wrongUDP(t, fmt.Sprint("a right one's first ", size), madeUDP(8, 0)[:size], api.ErrShort)
		wrongUDP(t, fmt.Sprint("noughts: ", size), make([]byte, size), api.ErrShort)
	}
	for _, size := range []int{1481, 1482, 1500, 65535} {
		wrongUDP(t, fmt.Sprint(size, " bytes"), madeUDP(size, 0), api.ErrLong)
	}
	wrongUDP(t, "too many behind", madeUDP(8, 1473), api.ErrLong)
	wrongUDP(t, "far too many behind", madeUDP(300, 70000), api.ErrLong)
}

func TestP5_3ReadUDPForm(t *testing.T) {
	for _, told := range []int{0, 1, 7, 31, 32, 256 + 20, 1480, 1481, 0x1e00, 65535} {
		for _, plain := range []bool{false, true} {
			b := madeUDP(30, 0)
			b[4], b[5] = byte(told>>8), byte(told)
			if plain {
				b[6], b[7] = 0, 0
			}
			wrongUDP(t, fmt.Sprint("30 bytes, told as ", told), b, api.ErrForm)
		}
	}
	wrongUDP(t, "one is missing", madeUDP(30, 0)[:29], api.ErrForm)
	wrongUDP(t, "noughts", make([]byte, 8), api.ErrForm)
	for _, told := range []int{8, 9, 29, 30} {
		if got, err := trans.ReadUDP(here, there, madeUDP(told, 30-told)); len(got.Data) != told-8 || err != api.OK {
			t.Errorf("30 bytes, told as %d: %v, %v", told, got, err)
		}
	}
}

func TestP5_3ReadUDPSum(t *testing.T) {
	for i := range 21 {
		for bit := range 8 {
			if i == 4 || i == 5 {
				continue // How many bytes there are.
			}
			b := madeUDP(21, 4)
			b[i] ^= 1 << bit
			wrongUDP(t, fmt.Sprintf("the bit %d of byte %d", bit, i), b, api.ErrSum)
		}
	}
	b := madeUDP(21, 4)
	for bit := range 32 {
		for _, ends := range [][2]api.Addr{{here ^ 1<<bit, there}, {here, there ^ 1<<bit}} {
			if got, err := trans.ReadUDP(ends[0], ends[1], b); !reflect.DeepEqual(got, api.Datagram{}) || err != api.ErrSum {
				t.Errorf("between %x and %x: %v, %v", uint32(ends[0]), uint32(ends[1]), got, err)
			}
		}
	}
	for told := 8; told < 25; told++ {
		if told != 21 {
			b := madeUDP(21, 4)
			b[5] = byte(told)
			wrongUDP(t, fmt.Sprint("told as ", told), b, api.ErrSum)
		}
	}
	wrongUDP(t, "without a pseudo head", put(madeUDP(21, 0), atUDP, nil), api.ErrSum)
	wrongUDP(t, "another protocol's", put(madeUDP(21, 0), atUDP, pseudo(here, there, 6, 21)), api.ErrSum)
	wrongUDP(t, "of the bytes behind too", put(madeUDP(21, 4), atUDP, pseudo(here, there, 17, 25)), api.ErrSum)
}

// A check sum's place of which one byte alone is 0 is no Plain one's.
func TestP5_3ReadUDPHalfPlain(t *testing.T) {
	for _, place := range [][2]byte{{0, 1}, {1, 0}, {0, 255}, {255, 0}} {
		b := madeUDP(20, 0)
		b[6], b[7] = place[0], place[1]
		wrongUDP(t, fmt.Sprint("the place is ", place), b, api.ErrSum)
		b[18], b[19] = 0, 0
		rest := checked(pseudo(here, there, 17, 20), b)
		b[18], b[19] = byte(rest>>8), byte(rest)
		want := api.Datagram{From: 0x0108, To: 0x0f16, Data: b[8:]}
		if got, err := trans.ReadUDP(here, there, b); !sameDatagram(got, want) || err != api.OK {
			t.Errorf("the place is %v, and right: %v, %v", place, got, err)
		}
	}
}

func TestP5_3ReadUDPOrder(t *testing.T) {
	lay := func(size, told int) []byte {
		b := madeUDP(max(size, 8), 0)
		b[4], b[5] = byte(told>>8), byte(told)
		b[1] ^= 1
		return b[:size]
	}
	wrongUDP(t, "short, all else wrong", lay(7, 7), api.ErrShort)
	wrongUDP(t, "long, all else wrong", lay(1481, 7), api.ErrLong)
	wrongUDP(t, "long, told as few", lay(1481, 20), api.ErrLong)
	wrongUDP(t, "form ahead of sum", lay(30, 7), api.ErrForm)
	wrongUDP(t, "form ahead of sum", lay(30, 31), api.ErrForm)
	wrongUDP(t, "sum", lay(30, 30), api.ErrSum)
}

func TestP5_3ReadICMP(t *testing.T) {
	if got, err := trans.ReadICMP([]byte(messageText)); !sameMessage(got, message) || err != api.OK {
		t.Errorf("ReadICMP: %v, %v", got, err)
	}
	for _, size := range []int{8, 9, 10, 255, 256, 1479, 1480} {
		b := madeICMP(size)
		want := api.Message{Type: 1, Code: 8, Rest: 0x1d242b32, Data: b[8:]}
		if got, err := trans.ReadICMP(b); !sameMessage(got, want) || err != api.OK {
			t.Errorf("ReadICMP of %d bytes: %v, %v", size, got, err)
		}
	}
	if got, err := trans.ReadICMP([]byte("\x00\x00\xff\xff\x00\x00\x00\x00")); !sameMessage(got, api.Message{}) || err != api.OK {
		t.Errorf("ReadICMP of noughts: %v, %v", got, err)
	}
	if got, err := trans.ReadICMP([]byte("\xff\xff\x00\x00\x00\x00\x00\x00")); !sameMessage(got, api.Message{Type: 255, Code: 255}) || err != api.OK {
		t.Errorf("ReadICMP with 0 in its check sum's place: %v, %v", got, err)
	}
}

func TestP5_3ReadICMPWrong(t *testing.T) {
	wrongICMP(t, "nil", nil, api.ErrShort)
	for size := range 8 {
		wrongICMP(t, fmt.Sprint("a right one's first ", size), madeICMP(8)[:size], api.ErrShort)
		wrongICMP(t, fmt.Sprint("ones: ", size), bytes.Repeat([]byte{255}, size), api.ErrShort)
	}
	for _, size := range []int{1481, 1482, 1500, 65536, 70000} {
		wrongICMP(t, fmt.Sprint(size, " bytes"), madeICMP(size), api.ErrLong)
		b := madeICMP(size)
		b[0] ^= 1
		wrongICMP(t, fmt.Sprint(size, " bytes, long ahead of sum"), b, api.ErrLong)
	}
	for i := range 19 {
		for bit := range 8 {
			b := madeICMP(19)
			b[i] ^= 1 << bit
			wrongICMP(t, fmt.Sprintf("the bit %d of byte %d", bit, i), b, api.ErrSum)
		}
	}
	wrongICMP(t, "noughts", make([]byte, 8), api.ErrSum)
	wrongICMP(t, "with a pseudo head", put(madeICMP(19), atICMP, pseudo(here, there, 1, 19)), api.ErrSum)
	wrongICMP(t, "one behind", append(madeICMP(19), 1), api.ErrSum)
}

func TestP5_1P5_2P5_3Together(t *testing.T) {
	r := rand.New(rand.NewSource(1))
	some := func(most int) []byte {
		b := make([]byte, r.Intn(most+1))
		r.Read(b)
		return b
	}
	for range 1000 {
		src, dst := api.Addr(r.Uint32()), api.Addr(r.Uint32())
		s := api.Segment{From: uint16(r.Uint32()), To: uint16(r.Uint32()), Seq: r.Uint32(), Ack: r.Uint32(), Flags: byte(r.Uint32()), Window: uint16(r.Uint32()), Urgent: uint16(r.Uint32()),
			Opts: bytes.Repeat([]byte{byte(r.Uint32()), 2, 3, 4}, r.Intn(11)), Data: some(1420)}
		b, err := trans.WriteTCP(src, dst, s)
		if err != api.OK || !bytes.Equal(b, put(bytes.Clone(b), atTCP, pseudo(uint32(src), uint32(dst), 6, len(b)))) {
			t.Fatalf("WriteTCP(%v): %x, %v", s, b, err)
		}
		if got, err := trans.ReadTCP(src, dst, b); !sameSegment(got, s) || err != api.OK {
			t.Fatalf("ReadTCP of WriteTCP(%v): %v, %v", s, got, err)
		}
		d := api.Datagram{From: uint16(r.Uint32()), To: uint16(r.Uint32()), Plain: r.Intn(3) == 0, Data: some(1460)}
		b, err = trans.WriteUDP(src, dst, d)
		if err != api.OK || d.Plain != (b[6] == 0 && b[7] == 0) || !d.Plain && checked(pseudo(uint32(src), uint32(dst), 17, len(b)), b) != 0 {
			t.Fatalf("WriteUDP(%v): %x, %v", d, b, err)
		}
		if got, err := trans.ReadUDP(src, dst, append(b, "behind"[:r.Intn(7)]...)); !sameDatagram(got, d) || err != api.OK {
			t.Fatalf("ReadUDP of WriteUDP(%v): %v, %v", d, got, err)
		}
		m := api.Message{Type: byte(r.Uint32()), Code: byte(r.Uint32()), Rest: r.Uint32(), Data: some(1472)}
		b, err = trans.WriteICMP(m)
		if err != api.OK || !bytes.Equal(b, put(bytes.Clone(b), atICMP, nil)) {
			t.Fatalf("WriteICMP(%v): %x, %v", m, b, err)
		}
		if got, err := trans.ReadICMP(b); !sameMessage(got, m) || err != api.OK {
			t.Fatalf("ReadICMP of WriteICMP(%v): %v, %v", m, got, err)
		}
	}
}

func TestP5_4ArgumentsUnchanged(t *testing.T) {
	room := []byte(strings.Repeat("0123456789", 10))
	before := bytes.Clone(room)
	for size := range 41 {
		b, _ := trans.WriteTCP(here, there, api.Segment{Opts: room[:size], Data: room[size : 2*size]})
		spoil(b)
		b, _ = trans.WriteUDP(here, there, api.Datagram{Data: room[:size]})
		spoil(b)
		b, _ = trans.WriteICMP(api.Message{Data: room[:size]})
		spoil(b)
	}
	if !bytes.Equal(room, before) {
		t.Errorf("writing has changed what was handed in: %q", room)
	}
	for name, whole := range map[string][]byte{"TCP": madeTCP(60, 8), "UDP": madeUDP(60, 0), "ICMP": madeICMP(60)} {
		room := append(bytes.Clone(whole), "behind it"...)
		before := bytes.Clone(room)
		for size := range 61 {
			s, _ := trans.ReadTCP(here, there, room[:size])
			d, _ := trans.ReadUDP(here, there, room[:size])
			m, _ := trans.ReadICMP(room[:size])
			for _, b := range [][]byte{s.Opts, s.Data, d.Data, m.Data} {
				spoil(b)
			}
		}
		if !bytes.Equal(room, before) {
			t.Errorf("reading %s has changed what was handed in: %x", name, room)
		}
	}
}

func TestP5_4NothingIsKept(t *testing.T) {
	b := []byte(segmentText)
	s, _ := trans.ReadTCP(server, client, b)
	spoil(b)
	if !sameSegment(s, segment) {
		t.Errorf("ReadTCP keeps what it was given: %v", s)
	}
	b, _ = trans.WriteTCP(server, client, s)
	spoil(s.Opts)
	spoil(s.Data)
	if string(b) != segmentText {
		t.Errorf("WriteTCP keeps what it was given: %x", b)
	}
	b = []byte(datagramText)
	d, _ := trans.ReadUDP(here, there, b)
	spoil(b)
	if !sameDatagram(d, datagram) {
		t.Errorf("ReadUDP keeps what it was given: %v", d)
	}
	b, _ = trans.WriteUDP(here, there, d)
	spoil(d.Data)
	if string(b) != datagramText {
		t.Errorf("WriteUDP keeps what it was given: %x", b)
	}
	b = []byte(messageText)
	m, _ := trans.ReadICMP(b)
	spoil(b)
	if !sameMessage(m, message) {
		t.Errorf("ReadICMP keeps what it was given: %v", m)
	}
	b, _ = trans.WriteICMP(m)
	spoil(m.Data)
	if string(b) != messageText {
		t.Errorf("WriteICMP keeps what it was given: %x", b)
	}
}

// Lists of one answer and of two share no memory, in their spare room either.
func TestP5_4AnswersAreNew(t *testing.T) {
	for _, words := range []int{5, 6, 7} {
		b := madeTCP(50, words)
		x, _ := trans.ReadTCP(here, there, b)
		y, _ := trans.ReadTCP(here, there, b)
		spoil(x.Opts)
		if !bytes.Equal(x.Data, b[4*words:]) {
			t.Errorf("Opts and Data share memory: %x", x.Data)
		}
		spoil(x.Data)
		if !bytes.Equal(y.Opts, b[20:4*words]) || !bytes.Equal(y.Data, b[4*words:]) {
			t.Errorf("two answers of ReadTCP share memory: %v", y)
		}
	}
	for name, write := range map[string]func() ([]byte, api.Errno){
		"WriteTCP":  func() ([]byte, api.Errno) { return trans.WriteTCP(here, there, api.Segment{}) },
		"WriteUDP":  func() ([]byte, api.Errno) { return trans.WriteUDP(here, there, api.Datagram{Plain: true}) },
		"WriteICMP": func() ([]byte, api.Errno) { return trans.WriteICMP(api.Message{}) },
	} {
		x, _ := write()
		before := string(x)
		spoil(x)
		if y, _ := write(); string(y) != before {
			t.Errorf("two answers of %s share memory: %x", name, y)
		}
	}
}

// drive does the calls that the numbers of seed choose, and tells what they answered.
func drive(seed int64) string {
	r := rand.New(rand.NewSource(seed))
	size := 20 + r.Intn(1480)
	b := [][]byte{madeTCP(size, r.Intn(16)), madeUDP(size, r.Intn(50)), madeICMP(size)}[r.Intn(3)]
	for range r.Intn(3) {
		b[r.Intn(20)] = byte(r.Uint32())
	}
	if r.Intn(2) == 0 {
		b = b[:r.Intn(len(b)+1)]
	}
	s, err := trans.ReadTCP(here, there, b)
	out := fmt.Sprintln(s, err)
	d, err := trans.ReadUDP(here, there, b)
	out += fmt.Sprintln(d, err)
	m, err := trans.ReadICMP(b)
	out += fmt.Sprintln(m, err)
	src, dst := api.Addr(r.Uint32()), api.Addr(r.Uint32())
	wrote, err := trans.WriteTCP(src, dst, api.Segment{Seq: r.Uint32(), Opts: b[:min(len(b), r.Intn(50))], Data: b})
	out += fmt.Sprintln(wrote, err)
	wrote, err = trans.WriteUDP(src, dst, api.Datagram{Plain: r.Intn(2) == 0, Data: b})
	out += fmt.Sprintln(wrote, err)
	wrote, err = trans.WriteICMP(api.Message{Rest: r.Uint32(), Data: b})
	return out + fmt.Sprintln(wrote, err)
}

// P1: no call panics; P2: two runs of the same calls give the same answers.
func TestP1P2Runs(t *testing.T) {
	for seed := range int64(500) {
		if one, two := drive(seed), drive(seed); one != two {
			t.Fatalf("seed %d: two runs differ:\n%s\n%s", seed, one, two)
		}
	}
}
