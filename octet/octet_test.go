package octet_test

import (
	"bytes"
	"fmt"
	"math"
	"math/rand"
	"slices"
	"testing"

	"hearth/octet"
)

// The signatures that the chapter lists.
var (
	_ func(int, uint64) []byte                  = octet.Num
	_ func(...[]byte) []byte                    = octet.Join
	_ func([]byte) *octet.Eye                   = octet.NewEye
	_ func(*octet.Eye, int) uint64              = (*octet.Eye).Num
	_ func(*octet.Eye, int) []byte              = (*octet.Eye).Bytes
	_ func(*octet.Eye) int                      = (*octet.Eye).Left
	_ func(*octet.Eye) bool                     = (*octet.Eye).Bad
	_ func([]byte) func(func(int, uint16) bool) = octet.Pairs
)

// pair is what Pairs tells at one time.
type pair struct {
	place int
	n     uint16
}

func pairsOf(b []byte) []pair {
	var out []pair
	octet.Pairs(b)(func(i int, n uint16) bool {
		out = append(out, pair{i, n})
		return true
	})
	return out
}

// spoil writes over all of b's room, the spare one too.
func spoil(b []byte) {
	b = b[:cap(b)]
	for i := range b {
		b[i] = 0xee
	}
}

// roomy gives b with some spare room behind it, and all of the memory.
func roomy(b string) (part, whole []byte) {
	whole = append([]byte(b), "spare room"...)
	return whole[:len(b)], whole
}

func TestP1_1Num(t *testing.T) {
	const n = 0x0102030405060708
	for _, c := range []struct {
		size int
		n    uint64
		want []byte
	}{
		{2, 515, []byte{2, 3}},
		{0, n, nil},
		{-1, n, nil},
		{-8, n, nil},
		{math.MinInt, n, nil},
		{1, n, []byte{8}},
		{2, n, []byte{7, 8}},
		{3, n, []byte{6, 7, 8}},
		{4, n, []byte{5, 6, 7, 8}},
		{5, n, []byte{4, 5, 6, 7, 8}},
		{6, n, []byte{3, 4, 5, 6, 7, 8}},
		{7, n, []byte{2, 3, 4, 5, 6, 7, 8}},
		{8, n, []byte{1, 2, 3, 4, 5, 6, 7, 8}},
		{9, n, []byte{1, 2, 3, 4, 5, 6, 7, 8}},
		{math.MaxInt, n, []byte{1, 2, 3, 4, 5, 6, 7, 8}},
		{1, 256, []byte{0}},
		{1, 300, []byte{44}},
		{2, 0x10000, []byte{0, 0}},
		{4, 1, []byte{0, 0, 0, 1}},
		{8, 0, make([]byte, 8)},
		{8, math.MaxUint64, bytes.Repeat([]byte{255}, 8)},
		{3, math.MaxUint64, bytes.Repeat([]byte{255}, 3)},
	} {
		if got := octet.Num(c.size, c.n); !bytes.Equal(got, c.want) {
			t.Errorf("Num(%d, %#x): %v, not %v", c.size, c.n, got, c.want)
		}
	}
}

func TestP1_1Join(t *testing.T) {
	for _, c := range []struct {
		parts [][]byte
		want  string
	}{
		{nil, ""},
		{[][]byte{}, ""},
		{[][]byte{nil}, ""},
		{[][]byte{nil, {}, nil}, ""},
		{[][]byte{[]byte("one")}, "one"},
		{[][]byte{[]byte("one"), []byte("two")}, "onetwo"},
		{[][]byte{nil, []byte("a"), {}, []byte("bc"), nil, []byte("\x00\xff")}, "abc\x00\xff"},
		{[][]byte{[]byte("two"), []byte("one"), []byte("two")}, "twoonetwo"},
	} {
		if got := octet.Join(c.parts...); string(got) != c.want {
			t.Errorf("Join(%q): %q, not %q", c.parts, got, c.want)
		}
	}
	if got := octet.Join(); len(got) != 0 {
		t.Errorf("Join of nothing: %q", got)
	}
}

func TestP1_2EyeReadsInOrder(t *testing.T) {
	e := octet.NewEye([]byte{1, 2, 3, 4, 5, 6, 7, 8, 9, 10, 11, 12})
	left := func(want int) {
		t.Helper()
		if e.Left() != want || e.Bad() {
			t.Errorf("Left %d, Bad %t, not %d and false", e.Left(), e.Bad(), want)
		}
	}
	left(12)
	if n := e.Num(1); n != 1 {
		t.Errorf("Num(1): %d", n)
	}
	left(11)
	if n := e.Num(3); n != 0x020304 {
		t.Errorf("Num(3): %#x", n)
	}
	left(8)
	for _, size := range []int{0, -1, math.MinInt} {
		if n := e.Num(size); n != 0 {
			t.Errorf("Num(%d): %d", size, n)
		}
		if b := e.Bytes(size); len(b) != 0 {
			t.Errorf("Bytes(%d): %v", size, b)
		}
		left(8)
	}
	if b := e.Bytes(2); !bytes.Equal(b, []byte{5, 6}) {
		t.Errorf("Bytes(2): %v", b)
	}
	left(6)
	if n := e.Num(2); n != 0x0708 {
		t.Errorf("Num(2): %#x", n)
	}
	left(4)
	if b := e.Bytes(4); !bytes.Equal(b, []byte{9, 10, 11, 12}) {
		t.Errorf("Bytes(4): %v", b)
	}
	left(0)
	if n, b := e.Num(0), e.Bytes(0); n != 0 || len(b) != 0 {
		t.Errorf("nothing at the end: %d, %v", n, b)
	}
	left(0)
}

func TestP1_2EyeSizes(t *testing.T) {
	b := []byte{0xf1, 0xf2, 0xf3, 0xf4, 0xf5, 0xf6, 0xf7, 0xf8, 0xf9}
	for size, want := range []uint64{0, 0xf1, 0xf1f2, 0xf1f2f3, 0xf1f2f3f4, 0xf1f2f3f4f5, 0xf1f2f3f4f5f6, 0xf1f2f3f4f5f6f7, 0xf1f2f3f4f5f6f7f8} {
		e := octet.NewEye(b)
		if n := e.Num(size); n != want || e.Left() != len(b)-size || e.Bad() {
			t.Errorf("Num(%d): %#x, Left %d, Bad %t", size, n, e.Left(), e.Bad())
		}
		if n := e.Num(1); n != uint64(b[size]) {
			t.Errorf("behind Num(%d): %#x", size, n)
		}
	}
	for _, size := range []int{9, 10, 255, math.MaxInt} {
		e := octet.NewEye(b[:8])
		if n := e.Num(size); n != 0xf1f2f3f4f5f6f7f8 || e.Left() != 0 || e.Bad() {
			t.Errorf("Num(%d) of 8: %#x, Left %d, Bad %t", size, n, e.Left(), e.Bad())
		}
		e = octet.NewEye(b)
		if n := e.Num(size); n != 0xf1f2f3f4f5f6f7f8 || e.Left() != 1 || e.Bad() {
			t.Errorf("Num(%d) of 9: %#x, Left %d, Bad %t", size, n, e.Left(), e.Bad())
		}
		e = octet.NewEye(b[:7])
		if n := e.Num(size); n != 0 || e.Left() != 0 || !e.Bad() {
			t.Errorf("Num(%d) of 7: %#x, Left %d, Bad %t", size, n, e.Left(), e.Bad())
		}
	}
}

func TestP1_2EyeBad(t *testing.T) {
	tooMuch := map[string]func(*octet.Eye) bool{
		"Num(4)":           func(e *octet.Eye) bool { return e.Num(4) == 0 },
		"Num(8)":           func(e *octet.Eye) bool { return e.Num(8) == 0 },
		"Num(MaxInt)":      func(e *octet.Eye) bool { return e.Num(math.MaxInt) == 0 },
		"Bytes(4)":         func(e *octet.Eye) bool { return len(e.Bytes(4)) == 0 },
		"Bytes(MaxInt)":    func(e *octet.Eye) bool { return len(e.Bytes(math.MaxInt)) == 0 },
		"Bytes(MaxInt-1)":  func(e *octet.Eye) bool { return len(e.Bytes(math.MaxInt-1)) == 0 },
		"Bytes(2^32 + 1)":  func(e *octet.Eye) bool { return len(e.Bytes(1<<32+1)) == 0 },
		"Bytes(3), Num(1)": func(e *octet.Eye) bool { return len(e.Bytes(3)) == 3 && e.Num(1) == 0 },
	}
	for name, read := range tooMuch {
		e := octet.NewEye([]byte{1, 2, 3})
		if e.Bad() {
			t.Errorf("%s: Bad ahead of it", name)
		}
		if !read(e) {
			t.Errorf("%s: it read something", name)
		}
		if !e.Bad() || e.Left() != 0 {
			t.Errorf("%s: Left %d, Bad %t", name, e.Left(), e.Bad())
		}
		for _, n := range []int{0, -1, math.MinInt, 1, 0} { // reads of nothing, too: they are right, but Bad tells of all reads
			if e.Num(n) != 0 || !e.Bad() || len(e.Bytes(n)) != 0 || !e.Bad() || e.Left() != 0 {
				t.Errorf("%s: Left %d, Bad %t behind reads of %d", name, e.Left(), e.Bad(), n)
			}
		}
	}
	for _, none := range [][]byte{nil, {}} {
		e := octet.NewEye(none)
		if e.Left() != 0 || e.Num(0) != 0 || len(e.Bytes(0)) != 0 || e.Bad() {
			t.Error("an eye of nothing")
		}
		if e.Num(1) != 0 || !e.Bad() {
			t.Error("an eye of nothing, Num(1)")
		}
	}
}

func TestP1_2EyesByThemselves(t *testing.T) {
	b := []byte{1, 2, 3}
	one, two := octet.NewEye(b), octet.NewEye(b)
	if one.Num(4) != 0 || !one.Bad() {
		t.Error("one")
	}
	if two.Bad() || two.Left() != 3 || two.Num(3) != 0x010203 {
		t.Error("what was done to one is seen in the other")
	}
}

func TestP1_3Pairs(t *testing.T) {
	for _, c := range []struct {
		b    []byte
		want []pair
	}{
		{nil, nil},
		{[]byte{}, nil},
		{[]byte{7}, []pair{{0, 0x0700}}},
		{[]byte{1, 2}, []pair{{0, 0x0102}}},
		{[]byte{1, 2, 3}, []pair{{0, 258}, {1, 768}}},
		{[]byte{0, 0, 0}, []pair{{0, 0}, {1, 0}}},
		{[]byte{0xff, 0xfe, 0, 1, 0x80, 0, 0xff}, []pair{{0, 0xfffe}, {1, 1}, {2, 0x8000}, {3, 0xff00}}},
	} {
		if got := pairsOf(c.b); !slices.Equal(got, c.want) {
			t.Errorf("Pairs(%v): %v, not %v", c.b, got, c.want)
		}
	}
}

// What is left alone is told with a nought, whatever stands in the spare room.
func TestP1_3PairsSpareRoom(t *testing.T) {
	part, _ := roomy("abc")
	if got := pairsOf(part); !slices.Equal(got, []pair{{0, 0x6162}, {1, 0x6300}}) {
		t.Errorf("Pairs: %v", got)
	}
}

func TestP1_3PairsEnds(t *testing.T) {
	b := []byte{1, 2, 3, 4, 5}
	for stop := range 3 {
		calls := 0
		octet.Pairs(b)(func(i int, _ uint16) bool {
			calls++
			return i != stop
		})
		if calls != stop+1 {
			t.Errorf("told to end at %d: %d calls", stop, calls)
		}
	}
	last := -1
	for i := range octet.Pairs(b) {
		last = i
		if i == 1 {
			break
		}
	}
	if last != 1 {
		t.Errorf("left at %d", last)
	}
}

func TestP1_3PairsAgain(t *testing.T) {
	pairs := octet.Pairs([]byte{1, 2, 3})
	var got []string
	for i, n := range pairs {
		for j, m := range pairs {
			got = append(got, fmt.Sprint(i, n, j, m))
		}
	}
	if want := []string{"0 258 0 258", "0 258 1 768", "1 768 0 258", "1 768 1 768"}; !slices.Equal(got, want) {
		t.Errorf("%q, not %q", got, want)
	}
}

func TestP1_4ArgumentsUnchanged(t *testing.T) {
	one, oneWhole := roomy("abc")
	two, twoWhole := roomy("de")
	oneBefore, twoBefore := bytes.Clone(oneWhole), bytes.Clone(twoWhole)
	parts := [][]byte{one, nil, two, one, {}}
	joined := octet.Join(parts...)
	e := octet.NewEye(one)
	e.Num(1)
	read := e.Bytes(1)
	e.Bytes(9)
	pairsOf(one)
	check := func(when string) {
		t.Helper()
		if !bytes.Equal(oneWhole, oneBefore) || !bytes.Equal(twoWhole, twoBefore) {
			t.Errorf("%s: an argument has changed: %q, %q", when, oneWhole, twoWhole)
		}
	}
	check("by the calls")
	if len(parts) != 5 || string(parts[0]) != "abc" || parts[1] != nil || string(parts[2]) != "de" || string(parts[3]) != "abc" || len(parts[4]) != 0 {
		t.Errorf("the parts have changed: %q", parts)
	}
	spoil(joined)
	spoil(read)
	check("by the answers")
}

func TestP1_4JoinOfOneIsNew(t *testing.T) {
	for _, parts := range [][][]byte{{[]byte("abc")}, {[]byte("abc"), nil}, {nil, []byte("abc")}} {
		joined := octet.Join(parts...)
		spoil(joined)
		for _, p := range parts {
			if len(p) != 0 && string(p) != "abc" {
				t.Errorf("the answer is the argument's memory: %q", p)
			}
		}
		joined = octet.Join(parts...)
		for _, p := range parts {
			spoil(p)
		}
		if string(joined) != "abc" {
			t.Errorf("the argument is kept: %q", joined)
		}
	}
}

func TestP1_4EyeKeepsNothing(t *testing.T) {
	b := []byte{1, 2, 3, 4, 5, 6}
	e := octet.NewEye(b)
	first := e.Bytes(2)
	spoil(b)
	if !bytes.Equal(first, []byte{1, 2}) || e.Left() != 4 || e.Num(2) != 0x0304 || !bytes.Equal(e.Bytes(2), []byte{5, 6}) {
		t.Error("the bytes are kept")
	}
}

func TestP1_4EyeAnswersAreNew(t *testing.T) {
	b := []byte{1, 2, 3, 4, 5, 6}
	e := octet.NewEye(b)
	one := e.Bytes(2)
	two := e.Bytes(2)
	spoil(one)
	_ = append(one[:2], 0xee, 0xee, 0xee, 0xee)
	if !bytes.Equal(two, []byte{3, 4}) {
		t.Errorf("two answers share memory: %v", two)
	}
	spoil(two)
	if n := e.Num(2); n != 0x0506 {
		t.Errorf("an answer is what is still to be read: %#x", n)
	}
	if !bytes.Equal(b, []byte{1, 2, 3, 4, 5, 6}) {
		t.Errorf("an answer is the argument's memory: %v", b)
	}
}

func TestP1_4PairsKeepNothing(t *testing.T) {
	b := []byte{1, 2, 3, 4}
	pairs := octet.Pairs(b)
	spoil(b)
	var got []uint16
	for _, n := range pairs {
		got = append(got, n)
	}
	if !slices.Equal(got, []uint16{0x0102, 0x0304}) {
		t.Errorf("the bytes are kept: %#x", got)
	}
	b, got = []byte{1, 2, 3, 4}, nil
	for _, n := range octet.Pairs(b) {
		spoil(b)
		got = append(got, n)
	}
	if !slices.Equal(got, []uint16{0x0102, 0x0304}) {
		t.Errorf("the bytes are kept while they are gone through: %#x", got)
	}
}

func TestP1_4NumsAreNew(t *testing.T) {
	for _, size := range []int{1, 2, 4, 8, 9} {
		one := octet.Num(size, 7)
		spoil(one)
		if two := octet.Num(size, 7); two[len(two)-1] != 7 {
			t.Errorf("Num(%d): two answers share memory", size)
		}
	}
}

// drive does the calls that the numbers of seed choose, and tells what they answered.
func drive(seed int64) string {
	r := rand.New(rand.NewSource(seed))
	b := make([]byte, r.Intn(40))
	r.Read(b)
	out := fmt.Sprintln(octet.Join(octet.Num(r.Intn(14)-3, r.Uint64()), b), pairsOf(b))
	e := octet.NewEye(b)
	sizes := []int{math.MinInt, -7, -1, 0, 1, 2, 3, 5, 8, 9, 20, math.MaxInt}
	for range 12 {
		size := sizes[r.Intn(len(sizes)-r.Intn(len(sizes)))]
		if r.Intn(2) == 0 {
			out += fmt.Sprintln(size, e.Num(size), e.Left(), e.Bad())
		} else {
			out += fmt.Sprintln(size, e.Bytes(size), e.Left(), e.Bad())
		}
	}
	return out
}

// P1: no call panics; P2: two runs of the same calls give the same answers.
func TestP1P2Runs(t *testing.T) {
	for seed := range int64(500) {
		if one, two := drive(seed), drive(seed); one != two {
			t.Fatalf("seed %d: two runs differ:\n%s\n%s", seed, one, two)
		}
	}
}

// What Num and Join lay, an Eye reads, and Pairs tell.
func TestP1_1To1_3Together(t *testing.T) {
	r := rand.New(rand.NewSource(1))
	for range 500 {
		var parts [][]byte
		var sizes []int
		var numbers []uint64
		for range r.Intn(8) {
			size := r.Intn(9)
			n := r.Uint64() >> (64 - 8*size)
			sizes, numbers = append(sizes, size), append(numbers, n)
			parts = append(parts, octet.Num(size, n))
		}
		b := octet.Join(parts...)
		e := octet.NewEye(b)
		for i, size := range sizes {
			if n := e.Num(size); n != numbers[i] {
				t.Fatalf("Num(%d): %#x, not %#x", size, n, numbers[i])
			}
		}
		if e.Left() != 0 || e.Bad() {
			t.Fatal("it is not read to its end")
		}
		e = octet.NewEye(octet.Join(b, []byte{0}))
		for i, n := range octet.Pairs(b) {
			if m := e.Num(2); m != uint64(n) || e.Left() != len(b)+1-2*(i+1) {
				t.Fatalf("pair %d: %#x, not %#x", i, n, m)
			}
		}
	}
}
