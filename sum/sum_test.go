package sum_test

import (
	"bytes"
	"fmt"
	"math/rand"
	"slices"
	"testing"

	"hearth/octet"
	"hearth/sum"
)

// The signatures that the chapter lists.
var (
	_ func(...[]byte) uint16            = sum.Sum
	_ func(uint16, ...[2]uint16) uint16 = sum.Update
	_ func(...[]byte) bool              = sum.Right
)

// add is the sum of two numbers with the carry brought back: told otherwise than the program works it out.
func add(a, b uint16) uint16 {
	n := int(a) + int(b)
	if n > 65535 {
		n -= 65535
	}
	return uint16(n)
}

// plain is the check sum, told two bytes at a time.
func plain(b []byte) uint16 {
	total := uint16(0)
	for i := 0; i < len(b); i += 2 {
		total = add(total, uint16(b[i])<<8)
		if i+1 < len(b) {
			total = add(total, uint16(b[i+1]))
		}
	}
	return 65535 - total
}

func TestP2_1Sum(t *testing.T) {
	for _, c := range []struct {
		b    []byte
		want uint16
	}{
		{nil, 0xffff},
		{[]byte{}, 0xffff},
		{[]byte{0}, 0xffff},
		{[]byte{0, 0}, 0xffff},
		{[]byte{0, 1, 242, 3, 244, 245, 246, 247}, 0x220d},
		{[]byte{1}, 0xfeff},
		{[]byte{0, 1}, 0xfffe},
		{[]byte{1, 2}, 0xfefd},
		{[]byte{1, 2, 3}, 0xfbfd},
		{[]byte{0xff}, 0x00ff},
		{[]byte{0xff, 0xff}, 0},
		{[]byte{0xff, 0xff, 0, 0}, 0},
		{[]byte{0xff, 0xff, 0, 1}, 0xfffe},
		{[]byte{0xff, 0xff, 0xff, 0xff}, 0},
		{[]byte{0xff, 0xff, 0xff, 0xff, 0, 1}, 0xfffe}, // what goes beyond goes beyond again
		{[]byte{0x80, 0, 0x80, 0}, 0xfffe},
		{[]byte{0x45, 0, 0, 0x73, 0, 0, 0x40, 0, 0x40, 0x11, 0, 0, 0xc0, 0xa8, 0, 1, 0xc0, 0xa8, 0, 0xc7}, 0xb861},
	} {
		if got := sum.Sum(c.b); got != c.want {
			t.Errorf("Sum(%v): %#04x, not %#04x", c.b, got, c.want)
		}
	}
	if got := sum.Sum(); got != 0xffff {
		t.Errorf("Sum of no parts: %#04x", got)
	}
}

// The parts are one behind the other, wherever one ends.
func TestP2_1Parts(t *testing.T) {
	b := []byte{0xf1, 0xe2, 0xd3, 0xc4, 0xb5, 0xa6, 0x97}
	want := plain(b)
	for i := range len(b) + 1 {
		for j := i; j <= len(b); j++ {
			if got := sum.Sum(b[:i], b[i:j], nil, b[j:], []byte{}); got != want {
				t.Errorf("cut at %d and %d: %#04x, not %#04x", i, j, got, want)
			}
		}
	}
	if got := sum.Sum(b[:1], b[1:2], b[2:3], b[3:4], b[4:5], b[5:6], b[6:]); got != want {
		t.Errorf("one by one: %#04x, not %#04x", got, want)
	}
	if got := sum.Sum([]byte{0xff}, []byte{0xff}); got != 0 {
		t.Errorf("two odd parts: %#04x", got)
	}
	if one, two := sum.Sum([]byte{1, 2, 3}, []byte{4}), sum.Sum([]byte{4}, []byte{1, 2, 3}); one == two {
		t.Errorf("the parts' order plays no part: %#04x", one)
	}
}

// So many numbers that their sum is beyond 32 bits.
func TestP2_1Long(t *testing.T) {
	b := bytes.Repeat([]byte{255}, 4*66000)
	for _, tail := range []string{"", "\x00\x01", "\x12\x34\x56"} {
		all := append(bytes.Clone(b), tail...)
		if got, want := sum.Sum(all), plain(all); got != want {
			t.Errorf("with %q behind: %#04x, not %#04x", tail, got, want)
		}
	}
}

func TestP2_1Random(t *testing.T) {
	r := rand.New(rand.NewSource(1))
	for range 2000 {
		b := make([]byte, r.Intn(60))
		r.Read(b)
		cut := r.Intn(len(b) + 1)
		if got, want := sum.Sum(b[:cut], b[cut:]), plain(b); got != want {
			t.Fatalf("Sum(%v) cut at %d: %#04x, not %#04x", b, cut, got, want)
		}
		if got, want := sum.Right(b[:cut], b[cut:]), plain(b) == 0; got != want {
			t.Fatalf("Right(%v): %t", b, got)
		}
	}
}

func TestP2_1Right(t *testing.T) {
	for _, c := range []struct {
		parts [][]byte
		want  bool
	}{
		{nil, false},
		{[][]byte{nil}, false},
		{[][]byte{{0, 0}}, false},
		{[][]byte{{0xff, 0xff}}, true},
		{[][]byte{{0xff}, {0xff}}, true},
		{[][]byte{{0xff}}, false},
		{[][]byte{{0xff}, {}, nil, {0xff, 0xff, 0xff}}, true},
		{[][]byte{{0, 1, 242, 3, 244, 245, 246, 247}, {0x22, 0x0d}}, true},
		{[][]byte{{0, 1, 242, 3, 244, 245, 246, 247}, {0x22, 0x0c}}, false},
		{[][]byte{{0, 1, 242, 3, 244, 245, 246, 247}}, false},
		{[][]byte{{0x45, 0, 0, 0x73, 0, 0, 0x40, 0, 0x40, 0x11}, {0xb8, 0x61, 0xc0, 0xa8, 0, 1, 0xc0, 0xa8, 0, 0xc7}}, true},
	} {
		if got := sum.Right(c.parts...); got != c.want {
			t.Errorf("Right(%v): %t", c.parts, got)
		}
	}
}

// A sum laid in its place makes its bytes right, and no bit of them may then be another one.
func TestP2_1RightOfSum(t *testing.T) {
	r := rand.New(rand.NewSource(2))
	for range 300 {
		b := make([]byte, 2+2*r.Intn(20))
		r.Read(b)
		b[0], b[1] = 0, 0
		copy(b, octet.Num(2, uint64(sum.Sum(b))))
		if !sum.Right(b) {
			t.Fatalf("Right(%v): false", b)
		}
		b[r.Intn(len(b))] ^= 1 << r.Intn(8)
		if sum.Right(b) {
			t.Fatalf("Right(%v): true", b)
		}
	}
}

func TestP2_2Update(t *testing.T) {
	for _, c := range []struct {
		sum     uint16
		changes [][2]uint16
		want    uint16
	}{
		{0x1234, nil, 0x1234},
		{0, nil, 0},
		{0xffff, nil, 0xffff},
		{0xdd2f, [][2]uint16{{0x5555, 0x3285}}, 0},
		{0x9e9d, [][2]uint16{{0x6162, 0x6163}, {0, 0}}, 0x9e9c},
		{0, [][2]uint16{{0, 0}}, 0},
		{0xffff, [][2]uint16{{0, 0}}, 0},
		{0xffff, [][2]uint16{{0xffff, 0}}, 0xffff},
		{0, [][2]uint16{{0xffff, 0}}, 0},
		{0xffff, [][2]uint16{{0, 0xffff}}, 0},
		{0xffff, [][2]uint16{{0, 1}}, 0xfffe},
		{0, [][2]uint16{{0, 1}}, 0xfffe},
		{0xfffe, [][2]uint16{{1, 2}}, 0xfffd},
		{0xfffd, [][2]uint16{{2, 1}}, 0xfffe},
		{0x1234, [][2]uint16{{0x5678, 0x5678}}, 0x1234},
		{0x1234, [][2]uint16{{1, 2}, {2, 1}}, 0x1234},
		{0x1234, [][2]uint16{{1, 2}, {1, 2}, {1, 2}}, 0x1231},
	} {
		if got := sum.Update(c.sum, c.changes...); got != c.want {
			t.Errorf("Update(%#04x, %#04x): %#04x, not %#04x", c.sum, c.changes, got, c.want)
		}
	}
}

// All edges against one another, one change or two.
func TestP2_2Edges(t *testing.T) {
	edges := []uint16{0, 1, 0x7fff, 0x8000, 0xfffe, 0xffff}
	told := func(s, before, after uint16) uint16 {
		return 65535 - add(add(65535-s, 65535-before), after)
	}
	for _, s := range edges {
		for _, before := range edges {
			for _, after := range edges {
				want := told(s, before, after)
				if got := sum.Update(s, [2]uint16{before, after}); got != want {
					t.Errorf("Update(%#04x, %#04x, %#04x): %#04x, not %#04x", s, before, after, got, want)
				}
				want = told(want, after, s)
				if got := sum.Update(s, [2]uint16{before, after}, [2]uint16{after, s}); got != want {
					t.Errorf("Update(%#04x, %#04x, %#04x, back): %#04x, not %#04x", s, before, after, got, want)
				}
			}
		}
	}
}

// So many changes that what they add is beyond 32 bits.
func TestP2_2Many(t *testing.T) {
	changes := make([][2]uint16, 70000)
	want := uint16(0x1234)
	for i := range changes {
		changes[i] = [2]uint16{1, 0xfffe}
		want = sum.Update(want, changes[i])
	}
	if got := sum.Update(0x1234, changes...); got != want {
		t.Errorf("%#04x, not %#04x", got, want)
	}
}

func nought(b []byte) bool { return bytes.Count(b, []byte{0}) == len(b) }

func TestP2_3UpdateAsSum(t *testing.T) {
	r := rand.New(rand.NewSource(3))
	edges := []uint16{0, 1, 0x00ff, 0xff00, 0x8000, 0xfffe, 0xffff}
	for range 20000 {
		b := make([]byte, 2+2*r.Intn(6))
		for i := 0; i < len(b); i += 2 {
			copy(b[i:], octet.Num(2, uint64(edges[r.Intn(len(edges))])))
		}
		after := bytes.Clone(b)
		var changes [][2]uint16
		for range r.Intn(4) {
			i := 2 * r.Intn(len(b)/2)
			old := uint16(after[i])<<8 | uint16(after[i+1])
			now := edges[r.Intn(len(edges))]
			changes = append(changes, [2]uint16{old, now})
			copy(after[i:], octet.Num(2, uint64(now)))
		}
		if nought(b) || nought(after) {
			continue
		}
		if got, want := sum.Update(sum.Sum(b), changes...), sum.Sum(after); got != want {
			t.Fatalf("from %v to %v by %#04x: %#04x, not %#04x", b, after, changes, got, want)
		}
	}
}

func TestP2_4ArgumentsUnchanged(t *testing.T) {
	whole := []byte("abcdefghi, and spare room")
	before := bytes.Clone(whole)
	// Not in the order in which they stand, for what is put behind the first part would write over the others.
	parts := [][]byte{whole[:3], nil, whole[7:8], whole[4:9]}
	changes := [][2]uint16{{1, 2}, {3, 0xffff}, {5, 6}}
	sum.Sum(parts...)
	sum.Right(parts...)
	sum.Update(7, changes[:2]...)
	if !bytes.Equal(whole, before) {
		t.Errorf("the bytes have changed: %q", whole)
	}
	if len(parts) != 4 || string(parts[0]) != "abc" || parts[1] != nil || string(parts[2]) != "h" || string(parts[3]) != "efghi" {
		t.Errorf("the parts have changed: %q", parts)
	}
	if !slices.Equal(changes, [][2]uint16{{1, 2}, {3, 0xffff}, {5, 6}}) {
		t.Errorf("the changes have changed: %v", changes)
	}
}

// drive does the calls that the numbers of seed choose, and tells what they answered.
func drive(seed int64) string {
	r := rand.New(rand.NewSource(seed))
	parts := make([][]byte, r.Intn(5))
	for i := range parts {
		parts[i] = make([]byte, r.Intn(9))
		r.Read(parts[i])
	}
	changes := make([][2]uint16, r.Intn(5))
	for i := range changes {
		changes[i] = [2]uint16{uint16(r.Uint32()), uint16(r.Uint32())}
	}
	return fmt.Sprintln(sum.Sum(parts...), sum.Right(parts...), sum.Update(uint16(r.Uint32()), changes...))
}

// P1: no call panics; P2: two runs of the same calls give the same answers.
func TestP1P2Runs(t *testing.T) {
	for seed := range int64(500) {
		if one, two := drive(seed), drive(seed); one != two {
			t.Fatalf("seed %d: two runs differ: %s, %s", seed, one, two)
		}
	}
}
