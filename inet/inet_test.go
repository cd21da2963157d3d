package inet_test

import (
	"bytes"
	"fmt"
	"math"
	"math/rand"
	"reflect"
	"strings"
	"testing"

	"hearth/api"
	"hearth/inet"
)

// The signatures that the chapter lists.
var (
	_ func(api.Packet) ([]byte, api.Errno) = inet.Write
	_ func([]byte) (api.Packet, api.Errno) = inet.Read
	_ func(api.Addr) string                = inet.Text
	_ func(string) (api.Addr, bool)        = inet.Parse
	_ func(api.Addr, api.Addr, int) bool   = inet.Within
)

// known is a packet whose check sum is known (0xb861), but for its Body's bytes.
var known = api.Packet{TTL: 64, Proto: api.UDP, Src: 0xc0a80001, Dst: 0xc0a800c7, Body: bytes.Repeat([]byte("x"), 95)}

// knownHead are the first bytes of known.
const knownHead = "\x45\x00\x00\x73\x00\x00\x40\x00\x40\x11\xb8\x61\xc0\xa8\x00\x01\xc0\xa8\x00\xc7"

// seal lays the check sum of the first 20 bytes in its place: told otherwise than the program works it out.
func seal(b []byte) []byte {
	b[10], b[11] = 0, 0
	total := 0
	for i := 0; i < 20; i += 2 {
		total += int(b[i])*256 + int(b[i+1])
	}
	total = (65535 - total%65535) % 65535
	b[10], b[11] = byte(total/256), byte(total%256)
	return b
}

// made gives a right packet of so many bytes in all, with so many behind it.
func made(size, behind int) []byte {
	b := make([]byte, size+behind)
	copy(b, "\x45\x00??\x12\x34\x40\x00\x07\x06??\x0a\x0b\x0c\x0d\x01\x02\x03\x04")
	b[2], b[3] = byte(size/256), byte(size%256)
	for i := 20; i < len(b); i++ {
		b[i] = byte(i)
	}
	return seal(b)
}

// with gives b with the byte v at the place i, and its check sum right again.
func with(b []byte, i int, v byte) []byte {
	b = bytes.Clone(b)
	b[i] = v
	return seal(b)
}

func samePacket(a, b api.Packet) bool {
	bodies := bytes.Equal(a.Body, b.Body)
	a.Body, b.Body = nil, nil
	return bodies && reflect.DeepEqual(a, b)
}

// spoil writes over all of b's room, the spare one too.
func spoil(b []byte) {
	b = b[:cap(b)]
	for i := range b {
		b[i] = 0xee
	}
}

func TestP4_1Write(t *testing.T) {
	if got, err := inet.Write(known); string(got) != knownHead+strings.Repeat("x", 95) || err != api.OK {
		t.Errorf("Write: %x, %v", got, err)
	}
	all := api.Packet{TTL: 0xa1, Proto: 0xb2, ID: 0xc3d4, Src: 0x01020304, Dst: 0x05060708, Body: []byte("abc")}
	want := seal([]byte("\x45\x00\x00\x17\xc3\xd4\x40\x00\xa1\xb2??\x01\x02\x03\x04\x05\x06\x07\x08abc"))
	if got, err := inet.Write(all); !bytes.Equal(got, want) || err != api.OK {
		t.Errorf("Write: %x, not %x, %v", got, want, err)
	}
	want = seal([]byte("\x45\x00\x00\x14\x00\x00\x40\x00\x00\x00??\x00\x00\x00\x00\x00\x00\x00\x00"))
	for _, none := range [][]byte{nil, {}} {
		if got, err := inet.Write(api.Packet{Body: none}); !bytes.Equal(got, want) || err != api.OK {
			t.Errorf("Write of noughts: %x, not %x, %v", got, want, err)
		}
	}
}

func TestP4_1WriteLong(t *testing.T) {
	body := make([]byte, 70000)
	for _, size := range []int{1, 255, 256, 1479, 1480} {
		got, err := inet.Write(api.Packet{TTL: 1, Body: body[:size]})
		if len(got) != 20+size || int(got[2])*256+int(got[3]) != 20+size || err != api.OK {
			t.Errorf("Write of %d bytes: %d bytes, %v", size, len(got), err)
		}
	}
	for _, size := range []int{1481, 1500, 65516, 65536, 70000} {
		if got, err := inet.Write(api.Packet{TTL: 1, Body: body[:size]}); len(got) != 0 || err != api.ErrLong {
			t.Errorf("Write of %d bytes: %d bytes, %v", size, len(got), err)
		}
	}
}

func TestP4_2Read(t *testing.T) {
	if got, err := inet.Read([]byte(knownHead + strings.Repeat("x", 95))); !samePacket(got, known) || err != api.OK {
		t.Errorf("Read: %v, %v", got, err)
	}
	for _, c := range [][2]int{{20, 0}, {21, 0}, {20, 1}, {20, 26}, {1499, 0}, {1500, 0}, {1500, 1}, {300, 70000}} {
		b := made(c[0], c[1])
		want := api.Packet{TTL: 7, Proto: api.TCP, ID: 0x1234, Src: 0x0a0b0c0d, Dst: 0x01020304, Body: b[20:c[0]]}
		if got, err := inet.Read(b); !samePacket(got, want) || err != api.OK {
			t.Errorf("Read of %d bytes and %d behind: %v, %v", c[0], c[1], got, err)
		}
	}
}

// What plays no part: the second byte, and the bits beside the fragment's.
func TestP4_2ReadPlaysNoPart(t *testing.T) {
	want, _ := inet.Read(made(40, 0))
	if len(want.Body) != 20 {
		t.Fatalf("Body of %d bytes", len(want.Body))
	}
	for _, c := range []struct {
		i int
		v byte
	}{{1, 1}, {1, 0x80}, {1, 255}, {6, 0}, {6, 0x80}, {6, 0xc0}} {
		if got, err := inet.Read(with(made(40, 0), c.i, c.v)); !samePacket(got, want) || err != api.OK {
			t.Errorf("byte %d is %#x: %v, %v", c.i, c.v, got, err)
		}
	}
}

func wrong(t *testing.T, name string, b []byte, want api.Errno) {
	t.Helper()
	if got, err := inet.Read(b); !reflect.DeepEqual(got, api.Packet{}) || err != want {
		t.Errorf("%s: %v, %v, not %v", name, got, err, want)
	}
}

func TestP4_2ReadShort(t *testing.T) {
	wrong(t, "nil", nil, api.ErrShort)
	for size := range 20 {
		wrong(t, fmt.Sprint("a right one's first ", size), made(20, 0)[:size], api.ErrShort)
		wrong(t, fmt.Sprint("noughts: ", size), make([]byte, size), api.ErrShort)
	}
	for _, told := range []int{0, 1, 19, 41, 42, 1501, 65535} {
		b := made(40, 0)
		b[2], b[3] = byte(told>>8), byte(told)
		wrong(t, fmt.Sprint("40 bytes, told as ", told), seal(b), api.ErrShort)
	}
	wrong(t, "one is missing", made(1500, 0)[:1499], api.ErrShort)
}

func TestP4_2ReadForm(t *testing.T) {
	for first := range 256 {
		want := api.OK
		switch {
		case first/16 != 4, first%16 < 5:
			want = api.ErrForm
		case first%16 > 5:
			want = api.ErrFrag
		}
		got, err := inet.Read(with(made(80, 0), 0, byte(first)))
		if err != want || want != api.OK && !reflect.DeepEqual(got, api.Packet{}) {
			t.Errorf("the first byte is %#x: %v, not %v", first, err, want)
		}
	}
}

func TestP4_2ReadLong(t *testing.T) {
	wrong(t, "1501 bytes", made(1501, 0), api.ErrLong)
	wrong(t, "1501 bytes and more", made(1501, 500), api.ErrLong)
	wrong(t, "65535 bytes", made(65535, 5), api.ErrLong)
}

func TestP4_2ReadSum(t *testing.T) {
	for i := 4; i < 20; i++ {
		for bit := range 8 {
			b := made(30, 0)
			b[i] ^= 1 << bit
			wrong(t, fmt.Sprintf("the bit %d of byte %d", bit, i), b, api.ErrSum)
		}
	}
	b := made(30, 0)
	b[25] ^= 1
	if _, err := inet.Read(b); err != api.OK {
		t.Errorf("a byte behind the head: %v", err)
	}
}

func TestP4_2ReadFragment(t *testing.T) {
	for bit := range 14 {
		for _, beside := range []byte{0, 0x40, 0x80, 0xc0} {
			b := made(30, 0)
			part := 1 << bit
			b[6], b[7] = beside|byte(part>>8), byte(part)
			wrong(t, fmt.Sprintf("the bits %x", b[6:8]), seal(b), api.ErrFrag)
		}
	}
	wrong(t, "all bits", with(with(made(30, 0), 6, 255), 7, 255), api.ErrFrag)
}

// Where several errors apply, the answer is the one named first.
func TestP4_2ReadOrder(t *testing.T) {
	lay := func(size int, first byte, told int, part byte, right bool) []byte {
		b := made(size, 0)
		b[0], b[2], b[3], b[7] = first, byte(told>>8), byte(told), part
		seal(b)
		if !right {
			b[11] ^= 1
		}
		return b
	}
	wrong(t, "form, all else wrong", lay(40, 0x64, 41, 1, false), api.ErrForm)
	wrong(t, "form ahead of options", lay(40, 0x66, 40, 0, true), api.ErrForm)
	wrong(t, "options ahead of short", lay(40, 0x46, 41, 1, false), api.ErrFrag)
	wrong(t, "options ahead of short", lay(40, 0x4f, 19, 0, true), api.ErrFrag)
	wrong(t, "short ahead of long", lay(1501, 0x45, 1502, 1, false), api.ErrShort)
	wrong(t, "short ahead of sum", lay(40, 0x45, 19, 1, false), api.ErrShort)
	wrong(t, "long ahead of sum", lay(1600, 0x45, 1501, 1, false), api.ErrLong)
	wrong(t, "sum ahead of fragment", lay(40, 0x45, 40, 1, false), api.ErrSum)
	wrong(t, "fragment", lay(40, 0x45, 40, 1, true), api.ErrFrag)
}

func TestP4_1P4_2Together(t *testing.T) {
	r := rand.New(rand.NewSource(1))
	for range 500 {
		p := api.Packet{TTL: byte(r.Uint32()), Proto: byte(r.Uint32()), ID: uint16(r.Uint32()), Src: api.Addr(r.Uint32()), Dst: api.Addr(r.Uint32()), Body: make([]byte, r.Intn(1481))}
		r.Read(p.Body)
		b, err := inet.Write(p)
		if err != api.OK || !bytes.Equal(b, seal(bytes.Clone(b))) {
			t.Fatalf("Write(%v): %x, %v", p, b, err)
		}
		if got, err := inet.Read(append(b, "behind"[:r.Intn(6)]...)); !samePacket(got, p) || err != api.OK {
			t.Fatalf("Read of Write(%v): %v, %v", p, got, err)
		}
	}
}

func TestP4_3Text(t *testing.T) {
	for a, want := range map[api.Addr]string{
		0:          "0.0.0.0",
		1:          "0.0.0.1",
		0x01020304: "1.2.3.4",
		0x04030201: "4.3.2.1",
		0xc0a80101: "192.168.1.1",
		0x0a640900: "10.100.9.0",
		0x80000000: "128.0.0.0",
		0xffffffff: "255.255.255.255",
	} {
		if got := inet.Text(a); got != want {
			t.Errorf("Text(%#x): %q, not %q", uint32(a), got, want)
		}
		if got, ok := inet.Parse(want); got != a || !ok {
			t.Errorf("Parse(%q): %#x, %t", want, uint32(got), ok)
		}
	}
	r := rand.New(rand.NewSource(2))
	for range 5000 {
		a := api.Addr(r.Uint32())
		want := fmt.Sprintf("%d.%d.%d.%d", a>>24, a>>16&255, a>>8&255, a&255)
		if got := inet.Text(a); got != want {
			t.Fatalf("Text(%#x): %q, not %q", uint32(a), got, want)
		}
		if got, ok := inet.Parse(want); got != a || !ok {
			t.Fatalf("Parse(%q): %#x, %t", want, uint32(got), ok)
		}
	}
}

func TestP4_3ParseWrong(t *testing.T) {
	for _, s := range []string{
		"", ".", "...", "1", "1.2", "1.2.3", "1.2.3.", ".1.2.3", "1..2.3", "1.2..3", "1.2.3.4.", ".1.2.3.4", "1.2.3.4.5", "0.0.0.0.0",
		"192.168.01.1", "01.2.3.4", "00.0.0.0", "1.2.3.04", "1.2.3.004", "0.0.0.00",
		"1.2.3.256", "256.2.3.4", "1.2.3.260", "1.2.3.999", "1.2.3.1000", "1.2.3.65540", "1.2.3.4294967300", "1.2.3.18446744073709551620",
		"1.2.3.-4", "1.2.3.+4", "+1.2.3.4", "-1.2.3.4", " 1.2.3.4", "1.2.3.4 ", "1.2. 3.4", "1.2.3.4\n", "1.2.3.4\x00", "\x001.2.3.4",
		"1.2.3.a", "a.b.c.d", "0x1.2.3.4", "1.2.3.0x4", "1_0.2.3.4", "1.2.3.1e1", "1,2,3,4", "1.2.3:4", "16909060", "::1", "localhost",
		"1.2.3.\u0664", "\xff.\xff.\xff.\xff", "1.2.3.4.255.255.255.255", strings.Repeat("1.", 100000), strings.Repeat("0", 100000) + "1.2.3.4",
	} {
		if got, ok := inet.Parse(s); got != 0 || ok {
			t.Errorf("Parse(%.60q): %#x, %t", s, uint32(got), ok)
		}
	}
}

// All texts of the characters that matter, up to some length, against what is a number of a text.
func TestP4_3ParseAll(t *testing.T) {
	number := map[string]bool{}
	for n := range 256 {
		number[fmt.Sprint(n)] = true
	}
	var try func(s string)
	try = func(s string) {
		parts := strings.Split(s, ".")
		want := len(parts) == 4
		for _, part := range parts {
			want = want && number[part]
		}
		a, ok := inet.Parse(s)
		if ok != want || ok && inet.Text(a) != s || !ok && a != 0 {
			t.Fatalf("Parse(%q): %#x, %t", s, uint32(a), ok)
		}
		if len(s) < 9 {
			for _, c := range ".025" {
				try(s + string(c))
			}
		}
	}
	try("")
}

func TestP4_3Within(t *testing.T) {
	const a = 0xc0a80107
	for _, c := range []struct {
		a, net api.Addr
		bits   int
		want   bool
	}{
		{a, 0xc0a80101, 24, true},
		{a, 0xc0a80100, 24, true},
		{a, 0xc0a80207, 24, false},
		{a, 0xc0a80007, 24, false},
		{a, 0xc0a80007, 23, true},
		{a, 0xc0a80106, 31, true},
		{a, 0xc0a80106, 32, false},
		{a, 0xc0a80105, 31, false},
		{a, a, 32, true},
		{a, a, 33, true},
		{a, a, math.MaxInt, true},
		{a, a ^ 1, 33, false},
		{a, a ^ 1, 64, false},
		{a, a ^ 1, math.MaxInt, false},
		{a, a ^ 0x80000000, 1, false},
		{a, a ^ 0x7fffffff, 1, true},
		{a, ^api.Addr(a), 0, true},
		{a, ^api.Addr(a), -1, true},
		{a, ^api.Addr(a), -32, true},
		{a, ^api.Addr(a), math.MinInt, true},
		{0, 0xffffffff, 0, true},
		{0, 0xffffffff, 1, false},
		{0, 0, 32, true},
	} {
		if got := inet.Within(c.a, c.net, c.bits); got != c.want {
			t.Errorf("Within(%#x, %#x, %d): %t", uint32(c.a), uint32(c.net), c.bits, got)
		}
		if got := inet.Within(c.net, c.a, c.bits); got != c.want {
			t.Errorf("Within(%#x, %#x, %d): %t", uint32(c.net), uint32(c.a), c.bits, got)
		}
	}
}

// Addresses that part at one bit are alike in the bits ahead of it, and in no more.
func TestP4_3WithinEachBit(t *testing.T) {
	r := rand.New(rand.NewSource(3))
	for place := range 32 {
		for bits := -3; bits < 40; bits++ {
			a := api.Addr(r.Uint32())
			b := a ^ 0x80000000>>place
			b ^= api.Addr(r.Uint32()) & (0x7fffffff >> place)
			if got, want := inet.Within(a, b, bits), bits <= place; got != want {
				t.Errorf("Within(%#x, %#x, %d): %t", uint32(a), uint32(b), bits, got)
			}
		}
	}
}

func TestP4_4ArgumentsUnchanged(t *testing.T) {
	whole := made(40, 20)
	before := bytes.Clone(whole)
	p, err := inet.Read(whole[:45])
	if err != api.OK || !bytes.Equal(p.Body, before[20:40]) {
		t.Fatalf("Read: %v, %v", p, err)
	}
	spoil(p.Body)
	b, _ := inet.Write(api.Packet{Body: whole[20:40]})
	spoil(b)
	if !bytes.Equal(whole, before) {
		t.Errorf("the bytes have changed: %q", whole)
	}
}

func TestP4_4NothingIsKept(t *testing.T) {
	b := []byte(knownHead + strings.Repeat("x", 95))
	p, _ := inet.Read(b)
	spoil(b)
	if string(p.Body) != strings.Repeat("x", 95) {
		t.Errorf("Read keeps what it was given: %q", p.Body)
	}
	b, _ = inet.Write(p)
	spoil(p.Body)
	if string(b) != knownHead+strings.Repeat("x", 95) {
		t.Errorf("Write keeps what it was given: %q", b)
	}
}

func TestP4_4AnswersAreNew(t *testing.T) {
	p := api.Packet{TTL: 64, Proto: api.UDP, Src: 0xc0a80001, Dst: 0xc0a800c7}
	x, _ := inet.Write(p)
	before := string(x)
	spoil(x)
	if y, _ := inet.Write(p); string(y) != before {
		t.Errorf("two answers of Write share memory: %q", y)
	}
}

// drive does the calls that the numbers of seed choose, and tells what they answered.
func drive(seed int64) string {
	r := rand.New(rand.NewSource(seed))
	b := made(20+r.Intn(1600), r.Intn(50))
	for range r.Intn(4) {
		b[r.Intn(20)] = byte(r.Uint32())
		if r.Intn(2) == 0 {
			seal(b)
		}
	}
	b = b[:r.Intn(len(b)+1)]
	read, err := inet.Read(b)
	out := fmt.Sprintln(read, err)
	wrote, err := inet.Write(api.Packet{ID: uint16(r.Uint32()), Body: b})
	out += fmt.Sprintln(wrote, err)
	text := []byte(inet.Text(api.Addr(r.Uint32())))
	if r.Intn(2) == 0 {
		text[r.Intn(len(text))] = byte(r.Uint32())
	}
	a, ok := inet.Parse(string(text))
	return out + fmt.Sprintln(text, a, ok, inet.Within(a, api.Addr(r.Uint32()), r.Intn(80)-20))
}

// P1: no call panics; P2: two runs of the same calls give the same answers.
func TestP1P2Runs(t *testing.T) {
	for seed := range int64(500) {
		if one, two := drive(seed), drive(seed); one != two {
			t.Fatalf("seed %d: two runs differ:\n%s\n%s", seed, one, two)
		}
	}
}
