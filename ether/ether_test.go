package ether_test

import (
	"bytes"
	"fmt"
	"math/rand"
	"reflect"
	"strings"
	"testing"

	"hearth/api"
	"hearth/ether"
)

// The signatures that the chapter lists.
var (
	_ func(api.Frame) ([]byte, api.Errno) = ether.Write
	_ func([]byte) (api.Frame, api.Errno) = ether.Read
	_ func(api.ARP) ([]byte, api.Errno)   = ether.WriteARP
	_ func([]byte) (api.ARP, api.Errno)   = ether.ReadARP
	_ func() api.MAC                      = ether.All
)

var (
	one = api.MAC{1, 2, 3, 4, 5, 6}
	two = api.MAC{0xa1, 0xb2, 0xc3, 0xd4, 0xe5, 0xf6}
)

// ends are the bytes of the addresses one and two.
const ends = "\x01\x02\x03\x04\x05\x06\xa1\xb2\xc3\xd4\xe5\xf6"

// arpText is what tells of arp.
const arpText = "\x00\x01\x08\x00\x06\x04\x00\x02" + "\x01\x02\x03\x04\x05\x06\xc0\xa8\x01\x07" + "\xa1\xb2\xc3\xd4\xe5\xf6\x0a\x0b\x0c\x0d"

var arp = api.ARP{Op: 2, From: one, Src: 0xc0a80107, To: two, Dst: 0x0a0b0c0d}

// sameFrame holds frames against one another; a nil Body and one without bytes are one.
func sameFrame(a, b api.Frame) bool {
	return a.Dst == b.Dst && a.Src == b.Src && a.Kind == b.Kind && bytes.Equal(a.Body, b.Body)
}

// spoil writes over all of b's room, the spare one too.
func spoil(b []byte) {
	b = b[:cap(b)]
	for i := range b {
		b[i] = 0xee
	}
}

func TestP3_1Write(t *testing.T) {
	long := bytes.Repeat([]byte("x"), 1501)
	for _, c := range []struct {
		f    api.Frame
		want string
	}{
		{api.Frame{Dst: one, Src: two, Kind: api.KindARP}, ends + "\x08\x06"},
		{api.Frame{Dst: one, Src: two, Kind: api.KindARP, Body: []byte{}}, ends + "\x08\x06"},
		{api.Frame{Dst: one, Src: two, Kind: api.KindIP, Body: []byte("abc")}, ends + "\x08\x00abc"},
		{api.Frame{Dst: one, Src: two, Kind: 1536, Body: []byte{0}}, ends + "\x06\x00\x00"},
		{api.Frame{Dst: one, Src: two, Kind: 0xfffe, Body: []byte{7}}, ends + "\xff\xfe\x07"},
		{api.Frame{Kind: 0x1234}, strings.Repeat("\x00", 12) + "\x12\x34"},
		{api.Frame{Dst: one, Src: two, Kind: api.KindIP, Body: long[:1500]}, ends + "\x08\x00" + strings.Repeat("x", 1500)},
	} {
		if got, err := ether.Write(c.f); string(got) != c.want || err != api.OK {
			t.Errorf("Write(%v): %x, %v", c.f, got, err)
		}
	}
}

func TestP3_1WriteWrong(t *testing.T) {
	long := make([]byte, 70000)
	for _, c := range []struct {
		kind uint16
		size int
		want api.Errno
	}{
		{api.KindIP, 1501, api.ErrLong},
		{api.KindIP, 1514, api.ErrLong},
		{api.KindIP, 65536, api.ErrLong},
		{api.KindIP, 70000, api.ErrLong},
		{1535, 0, api.ErrArg},
		{0, 0, api.ErrArg},
		{6, 3, api.ErrArg},
		{0x00ff, 1500, api.ErrArg},
		{1535, 1501, api.ErrLong},
		{0, 70000, api.ErrLong},
	} {
		f := api.Frame{Dst: one, Src: two, Kind: c.kind, Body: long[:c.size]}
		if got, err := ether.Write(f); len(got) != 0 || err != c.want {
			t.Errorf("Write of the Kind %d and %d bytes: %d bytes, %v", c.kind, c.size, len(got), err)
		}
	}
}

func TestP3_1Read(t *testing.T) {
	long := strings.Repeat("x", 1500)
	for _, c := range []struct {
		b    string
		want api.Frame
	}{
		{ends + "\x08\x06", api.Frame{Dst: one, Src: two, Kind: api.KindARP}},
		{ends + "\x08\x00abc", api.Frame{Dst: one, Src: two, Kind: api.KindIP, Body: []byte("abc")}},
		{ends + "\x06\x00\x00", api.Frame{Dst: one, Src: two, Kind: 1536, Body: []byte{0}}},
		{ends + "\xff\xfe", api.Frame{Dst: one, Src: two, Kind: 0xfffe}},
		{ends + "\x08\x00" + long, api.Frame{Dst: one, Src: two, Kind: api.KindIP, Body: []byte(long)}},
	} {
		if got, err := ether.Read([]byte(c.b)); !sameFrame(got, c.want) || err != api.OK {
			t.Errorf("Read(%x): %v, %v", c.b, got, err)
		}
	}
}

func TestP3_1ReadWrong(t *testing.T) {
	pad := func(kind string, size int) string {
		return ends + kind + strings.Repeat("x", size-14)
	}
	for _, c := range []struct {
		b    string
		want api.Errno
	}{
		{"", api.ErrShort},
		{"\x01", api.ErrShort},
		{ends, api.ErrShort},
		{ends + "\x08", api.ErrShort},
		{ends + "\x00", api.ErrShort},
		{pad("\x08\x00", 1515), api.ErrLong},
		{pad("\x08\x00", 70000), api.ErrLong},
		{pad("\x05\xff", 1515), api.ErrLong},
		{pad("\x05\xff", 14), api.ErrForm},
		{pad("\x05\xff", 1514), api.ErrForm},
		{pad("\x00\x00", 14), api.ErrForm},
		{pad("\x00\x2e", 60), api.ErrForm},
	} {
		if got, err := ether.Read([]byte(c.b)); !reflect.DeepEqual(got, api.Frame{}) || err != c.want {
			t.Errorf("Read of %d bytes: %v, %v, not %v", len(c.b), got, err, c.want)
		}
	}
	if got, err := ether.Read(nil); !reflect.DeepEqual(got, api.Frame{}) || err != api.ErrShort {
		t.Errorf("Read(nil): %v, %v", got, err)
	}
}

func TestP3_1Together(t *testing.T) {
	r := rand.New(rand.NewSource(1))
	for range 500 {
		f := api.Frame{Kind: uint16(1536 + r.Intn(64000)), Body: make([]byte, r.Intn(1501))}
		r.Read(f.Dst[:])
		r.Read(f.Src[:])
		r.Read(f.Body)
		b, err := ether.Write(f)
		if err != api.OK || len(b) != 14+len(f.Body) {
			t.Fatalf("Write(%v): %d bytes, %v", f, len(b), err)
		}
		if got, err := ether.Read(b); !sameFrame(got, f) || err != api.OK {
			t.Fatalf("Read of Write(%v): %v, %v", f, got, err)
		}
	}
}

func TestP3_2WriteARP(t *testing.T) {
	if got, err := ether.WriteARP(arp); string(got) != arpText || err != api.OK {
		t.Errorf("WriteARP(%v): %x, %v", arp, got, err)
	}
	asked := api.ARP{Op: 1, Src: 1, Dst: 0xffffffff}
	want := "\x00\x01\x08\x00\x06\x04\x00\x01" + strings.Repeat("\x00", 9) + "\x01" + strings.Repeat("\x00", 6) + "\xff\xff\xff\xff"
	if got, err := ether.WriteARP(asked); string(got) != want || err != api.OK {
		t.Errorf("WriteARP(%v): %x, %v", asked, got, err)
	}
	for _, op := range []uint16{0, 3, 4, 255, 0x0100, 0x0101, 0x0200, 0x0102, 65535} {
		a := arp
		a.Op = op
		if got, err := ether.WriteARP(a); len(got) != 0 || err != api.ErrArg {
			t.Errorf("WriteARP of the Op %d: %x, %v", op, got, err)
		}
	}
}

func TestP3_2ReadARP(t *testing.T) {
	for _, behind := range []string{"", "\x00", "\xff\xff", strings.Repeat("x", 18), strings.Repeat("\x00", 70000)} {
		if got, err := ether.ReadARP([]byte(arpText + behind)); got != arp || err != api.OK {
			t.Errorf("ReadARP with %d bytes behind: %v, %v", len(behind), got, err)
		}
	}
	asked := api.ARP{Op: 1, From: two, Src: 7, Dst: 0xfffefdfc}
	b, _ := ether.WriteARP(asked)
	if got, err := ether.ReadARP(b); got != asked || err != api.OK {
		t.Errorf("ReadARP: %v, %v", got, err)
	}
}

func TestP3_2ReadARPShort(t *testing.T) {
	for size := range 28 {
		for _, b := range [][]byte{[]byte(arpText)[:size], make([]byte, size), bytes.Repeat([]byte{255}, size)} {
			if got, err := ether.ReadARP(b); got != (api.ARP{}) || err != api.ErrShort {
				t.Errorf("ReadARP of %d bytes: %v, %v", size, got, err)
			}
		}
	}
	if _, err := ether.ReadARP(nil); err != api.ErrShort {
		t.Errorf("ReadARP(nil): %v", err)
	}
}

// Each bit of what an ARP packet begins with counts.
func TestP3_2ReadARPForm(t *testing.T) {
	for i := range 6 {
		for bit := range 8 {
			b := []byte(arpText + "behind")
			b[i] ^= 1 << bit
			if got, err := ether.ReadARP(b); got != (api.ARP{}) || err != api.ErrForm {
				t.Errorf("byte %d is %d: %v, %v", i, b[i], got, err)
			}
		}
	}
	for _, op := range []string{"\x00\x00", "\x00\x03", "\x00\x08", "\x01\x00", "\x01\x01", "\x02\x00", "\x01\x02", "\xff\xff"} {
		b := []byte(arpText)
		copy(b[6:], op)
		if got, err := ether.ReadARP(b); got != (api.ARP{}) || err != api.ErrForm {
			t.Errorf("the Op %x: %v, %v", op, got, err)
		}
	}
	if got, err := ether.ReadARP(make([]byte, 28)); got != (api.ARP{}) || err != api.ErrForm {
		t.Errorf("noughts: %v, %v", got, err)
	}
}

func TestP3_3All(t *testing.T) {
	all := ether.All()
	if all != (api.MAC{255, 255, 255, 255, 255, 255}) {
		t.Errorf("All: %v", all)
	}
	spoil(all[:])
	if ether.All() != (api.MAC{255, 255, 255, 255, 255, 255}) {
		t.Error("what was done to one All is seen in another")
	}
}

func TestP3_3ArgumentsUnchanged(t *testing.T) {
	whole := []byte(ends + "\x08\x00" + "body, and spare room")
	before := bytes.Clone(whole)
	frame, err := ether.Read(whole[:18])
	if err != api.OK || string(frame.Body) != "body" {
		t.Fatalf("Read: %v, %v", frame, err)
	}
	spoil(frame.Body)
	b, _ := ether.Write(api.Frame{Kind: api.KindIP, Body: whole[14:18]})
	spoil(b)
	if !bytes.Equal(whole, before) {
		t.Errorf("the bytes have changed: %q", whole)
	}
	whole = []byte(arpText + "spare room")
	before = bytes.Clone(whole)
	ether.ReadARP(whole[:28])
	if !bytes.Equal(whole, before) {
		t.Errorf("the bytes of the ARP packet have changed: %q", whole)
	}
}

func TestP3_3NothingIsKept(t *testing.T) {
	b := []byte(ends + "\x08\x00body")
	frame, _ := ether.Read(b)
	spoil(b)
	if string(frame.Body) != "body" {
		t.Errorf("Read keeps what it was given: %q", frame.Body)
	}
	b, _ = ether.Write(frame)
	spoil(frame.Body)
	if string(b) != ends+"\x08\x00body" {
		t.Errorf("Write keeps what it was given: %q", b)
	}
}

func TestP3_3AnswersAreNew(t *testing.T) {
	f := api.Frame{Dst: one, Src: two, Kind: api.KindIP}
	x, _ := ether.Write(f)
	spoil(x)
	if y, _ := ether.Write(f); string(y) != ends+"\x08\x00" {
		t.Errorf("two answers of Write share memory: %q", y)
	}
	x, _ = ether.WriteARP(arp)
	spoil(x)
	if y, _ := ether.WriteARP(arp); string(y) != arpText {
		t.Errorf("two answers of WriteARP share memory: %q", y)
	}
}

// drive does the calls that the numbers of seed choose, and tells what they answered.
func drive(seed int64) string {
	r := rand.New(rand.NewSource(seed))
	b := make([]byte, r.Intn(60)*r.Intn(30))
	r.Read(b)
	if r.Intn(2) == 0 {
		copy(b, arpText)
	}
	f := api.Frame{Kind: uint16(r.Uint32()), Body: b}
	a := api.ARP{Op: uint16(r.Intn(4)), From: one, To: two, Src: api.Addr(r.Uint32())}
	out := ""
	tell := func(v any, err api.Errno) { out += fmt.Sprintln(v, err) }
	wrote, err := ether.Write(f)
	tell(wrote, err)
	read, err := ether.Read(b)
	tell(read, err)
	wrote, err = ether.WriteARP(a)
	tell(wrote, err)
	told, err := ether.ReadARP(b)
	tell(told, err)
	return out
}

// P1: no call panics; P2: two runs of the same calls give the same answers.
func TestP1P2Runs(t *testing.T) {
	for seed := range int64(500) {
		if x, y := drive(seed), drive(seed); x != y {
			t.Fatalf("seed %d: two runs differ:\n%s\n%s", seed, x, y)
		}
	}
}
