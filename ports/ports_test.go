package ports_test

import (
	"fmt"
	"math"
	"math/rand"
	"slices"
	"testing"

	"hearth/ports"
)

// The signatures that the chapter lists.
var (
	_ func() *ports.Set                        = ports.New
	_ func(*ports.Set, uint16) bool            = (*ports.Set).Take
	_ func(*ports.Set, uint16) bool            = (*ports.Set).Give
	_ func(*ports.Set, uint16) bool            = (*ports.Set).Has
	_ func(*ports.Set, uint64) (uint16, bool)  = (*ports.Set).Pick
	_ func(*ports.Set) int                     = (*ports.Set).Len
	_ func(*ports.Set) func(func(uint16) bool) = (*ports.Set).All
)

// all is how many ports may be taken.
const all = 64512

// told gives what All tells.
func told(s *ports.Set) []uint16 {
	var out []uint16
	s.All()(func(p uint16) bool {
		out = append(out, p)
		return true
	})
	return out
}

// want holds a set against the ports that should be taken.
func want(t *testing.T, s *ports.Set, taken ...uint16) {
	t.Helper()
	if got := told(s); !slices.Equal(got, taken) {
		t.Errorf("All: %v, not %v", got, taken)
	}
	if s.Len() != len(taken) {
		t.Errorf("Len: %d, not %d", s.Len(), len(taken))
	}
}

// full gives a set of which all ports are taken.
func full(t *testing.T) *ports.Set {
	t.Helper()
	s := ports.New()
	for p := 1024; p <= 65535; p++ {
		if !s.Take(uint16(p)) {
			t.Fatalf("Take(%d)", p)
		}
	}
	return s
}

func TestP7_1New(t *testing.T) {
	s := ports.New()
	want(t, s)
	for p := range 65536 {
		if s.Has(uint16(p)) || s.Give(uint16(p)) {
			t.Fatalf("%d is taken", p)
		}
	}
	want(t, s)
}

// The ports at the edges: of what may be taken, and of numbers of some bits each.
func TestP7_1TakeGive(t *testing.T) {
	for p, may := range map[uint16]bool{
		0: false, 1: false, 63: false, 64: false, 512: false, 1022: false, 1023: false,
		1024: true, 1025: true, 1055: true, 1056: true, 1087: true, 1088: true, 2047: true, 2048: true,
		5000: true, 32767: true, 32768: true, 65471: true, 65472: true, 65534: true, 65535: true,
	} {
		s := ports.New()
		if s.Give(p) || s.Has(p) {
			t.Errorf("%d is taken at first", p)
		}
		if s.Take(p) != may || s.Has(p) != may {
			t.Errorf("Take(%d): %t", p, !may)
		}
		if may {
			want(t, s, p)
		} else {
			want(t, s)
		}
		if s.Take(p) || s.Has(p) != may || s.Len() != len(told(s)) {
			t.Errorf("Take(%d), again", p)
		}
		if s.Give(p) != may || s.Has(p) || s.Give(p) {
			t.Errorf("Give(%d)", p)
		}
		want(t, s)
		if s.Take(p) != may {
			t.Errorf("Take(%d), when it was given back", p)
		}
	}
}

// Each port stands for itself alone.
func TestP7_1Each(t *testing.T) {
	s := full(t)
	if s.Len() != all {
		t.Errorf("Len: %d", s.Len())
	}
	for p := 1024; p <= 65535; p++ {
		if !s.Give(uint16(p)) || s.Has(uint16(p)) || s.Len() != all-1 {
			t.Fatalf("Give(%d)", p)
		}
		if p > 1024 && !s.Has(uint16(p-1)) || p < 65535 && !s.Has(uint16(p+1)) {
			t.Fatalf("Give(%d): it gave one beside it", p)
		}
		if !s.Take(uint16(p)) || !s.Has(uint16(p)) || s.Len() != all {
			t.Fatalf("Take(%d)", p)
		}
	}
	for p := range uint16(1024) {
		if s.Has(p) || s.Give(p) || s.Take(p) {
			t.Fatalf("%d is taken", p)
		}
	}
}

// The chapter's example.
func TestP7_2Example(t *testing.T) {
	s := ports.New()
	if !s.Take(1024) {
		t.Error("Take(1024)")
	}
	for i, c := range []struct {
		draw uint64
		want uint16
	}{{0, 1025}, {64511, 65535}, {64511, 1026}} {
		if p, ok := s.Pick(c.draw); p != c.want || !ok {
			t.Errorf("%d: Pick(%d): %d, %t", i, c.draw, p, ok)
		}
	}
	want(t, s, 1024, 1025, 1026, 65535)
}

func TestP7_2Draws(t *testing.T) {
	for draw, port := range map[uint64]uint16{
		0: 1024, 1: 1025, 63: 1087, 64: 1088, 1023: 2047, 1024: 2048, 64510: 65534, 64511: 65535,
		64512: 1024, 64513: 1025, 65535: 2047, 65536: 2048, 129023: 65535, 129024: 1024,
		1<<32 - 1:      1024 + (1<<32-1)%all,
		1 << 32:        1024 + (1<<32)%all,
		1<<63 - 1:      1024 + (1<<63-1)%all,
		1 << 63:        1024 + (1<<63)%all,
		math.MaxUint64: 1024 + math.MaxUint64%all,
	} {
		s := ports.New()
		if p, ok := s.Pick(draw); p != port || !ok || !s.Has(port) {
			t.Errorf("Pick(%d): %d, %t, not %d", draw, p, ok, port)
		}
		want(t, s, port)
	}
}

// What is free is looked for upwards, and then from 1024 on, past all that is taken.
func TestP7_2PassesTaken(t *testing.T) {
	for _, c := range []struct {
		draw uint64
		free []uint16 // all others are taken
		want uint16
	}{
		{0, []uint16{65535}, 65535},
		{0, []uint16{1024}, 1024},
		{0, []uint16{1088, 1087}, 1087},
		{1, []uint16{1024}, 1024},
		{1, []uint16{1024, 1025}, 1025},
		{1, []uint16{1024, 65535}, 65535},
		{63, []uint16{1088, 1086}, 1088},
		{64, []uint16{1087, 1151}, 1151},
		{64, []uint16{1087, 1024}, 1024},
		{100, []uint16{1123, 1125}, 1125},
		{100, []uint16{1122, 1123}, 1122},
		{100, []uint16{1124, 1125}, 1124},
		{64511, []uint16{65534, 1500}, 1500},
		{64511, []uint16{65534}, 65534},
		{64511, []uint16{65535, 1024}, 65535},
		{64512 + 30000, []uint16{31023, 31025}, 31025},
	} {
		s := full(t)
		for _, p := range c.free {
			s.Give(p)
		}
		if p, ok := s.Pick(c.draw); p != c.want || !ok || !s.Has(c.want) || s.Len() != all-len(c.free)+1 {
			t.Errorf("Pick(%d) of %v: %d, %t", c.draw, c.free, p, ok)
		}
	}
}

func TestP7_2Full(t *testing.T) {
	s := full(t)
	for _, draw := range []uint64{0, 1, 64511, 64512, math.MaxUint64} {
		if p, ok := s.Pick(draw); p != 0 || ok || s.Len() != all {
			t.Errorf("Pick(%d) of none: %d, %t", draw, p, ok)
		}
	}
	s.Give(40000)
	if p, ok := s.Pick(7); p != 40000 || !ok {
		t.Errorf("Pick of one: %d, %t", p, ok)
	}
	if p, ok := s.Pick(7); p != 0 || ok {
		t.Errorf("Pick of none, again: %d, %t", p, ok)
	}
}

// Picked one by one, all of them come, and each once.
func TestP7_2All(t *testing.T) {
	for _, draw := range []uint64{0, 1000, 64511} {
		s := ports.New()
		for i := range all {
			if p, ok := s.Pick(draw); int(p) != 1024+(int(draw)+i)%all || !ok {
				t.Fatalf("Pick(%d), the %d-th: %d, %t", draw, i, p, ok)
			}
		}
		if p, ok := s.Pick(draw); p != 0 || ok {
			t.Errorf("Pick(%d) of none: %d, %t", draw, p, ok)
		}
	}
}

func TestP7_3All(t *testing.T) {
	s := ports.New()
	for _, p := range []uint16{65535, 1024, 1087, 5000, 1088, 65472, 65471, 1025} {
		s.Take(p)
	}
	want(t, s, 1024, 1025, 1087, 1088, 5000, 65471, 65472, 65535)
	s.Give(1087)
	s.Give(65535)
	want(t, s, 1024, 1025, 1088, 5000, 65471, 65472)
	got := told(full(t))
	if len(got) != all || got[0] != 1024 || got[all-1] != 65535 || !slices.IsSorted(got) {
		t.Errorf("All of all: %d", len(got))
	}
}

func TestP7_3AllEnds(t *testing.T) {
	s := ports.New()
	taken := []uint16{1024, 1025, 1026, 2000, 2001, 65535}
	for _, p := range taken {
		s.Take(p)
	}
	for i, stop := range taken {
		calls := 0
		s.All()(func(p uint16) bool {
			calls++
			return p != stop
		})
		if calls != i+1 {
			t.Errorf("told to end at %d: %d calls", stop, calls)
		}
	}
	want(t, s, taken...)
}

func TestP7_3AllAgain(t *testing.T) {
	s := ports.New()
	s.Take(2000)
	s.Take(3000)
	through, got := s.All(), ""
	for p := range through {
		for q := range through {
			got += fmt.Sprint(p, q, " ")
		}
	}
	if got != "2000 2000 2000 3000 3000 2000 3000 3000 " {
		t.Errorf("one in the other: %s", got)
	}
}

func TestP7_1SetsByThemselves(t *testing.T) {
	one, two := ports.New(), ports.New()
	one.Take(5000)
	want(t, two)
	two.Pick(0)
	want(t, one, 5000)
	one.Give(5000)
	want(t, two, 1024)
}

// modelPick looks for a port one by one.
func modelPick(taken map[int]struct{}, draw uint64) (uint16, bool) {
	for i := range all {
		p := 1024 + (int(draw%all)+i)%all
		if _, ok := taken[p]; !ok {
			taken[p] = struct{}{}
			return uint16(p), true
		}
	}
	return 0, false
}

// Sets that ports are taken from in all orders have what a model has.
func TestP7_1To7_3Model(t *testing.T) {
	for seed := range int64(100) {
		r := rand.New(rand.NewSource(seed))
		s, taken := ports.New(), map[int]struct{}{}
		low, span := r.Intn(65536), 1+r.Intn(300)
		for range 600 {
			p := (low + r.Intn(span)) % 65536
			_, there := taken[p]
			switch r.Intn(4) {
			case 0:
				if may := p >= 1024 && !there; s.Take(uint16(p)) != may {
					t.Fatalf("seed %d: Take(%d): %t", seed, p, !may)
				} else if may {
					taken[p] = struct{}{}
				}
			case 1:
				if s.Give(uint16(p)) != there || s.Has(uint16(p)) {
					t.Fatalf("seed %d: Give(%d): %t", seed, p, !there)
				}
				delete(taken, p)
			case 2:
				draw := uint64(p+all-1024) + all*uint64(r.Intn(1000))
				want, ok := modelPick(taken, draw)
				if got, done := s.Pick(draw); got != want || done != ok {
					t.Fatalf("seed %d: Pick(%d): %d, not %d", seed, draw, got, want)
				}
			default:
				if s.Has(uint16(p)) != there || s.Len() != len(taken) {
					t.Fatalf("seed %d: Has(%d): %t, Len %d", seed, p, !there, s.Len())
				}
			}
		}
		var rising []uint16
		for p := range taken {
			rising = append(rising, uint16(p))
		}
		slices.Sort(rising)
		want(t, s, rising...)
	}
}

// drive does the calls that the numbers of seed choose, and tells what they answered.
func drive(seed int64) string {
	r := rand.New(rand.NewSource(seed))
	s, out := ports.New(), ""
	for range 300 {
		p, draw := uint16(r.Intn(65536)), r.Uint64()
		if r.Intn(2) == 0 {
			p, draw = p%70+1000, draw%5
		}
		picked, ok := s.Pick(draw)
		out += fmt.Sprintln(p, draw, s.Take(p), s.Has(p), picked, ok, s.Has(picked), s.Give(p+uint16(r.Intn(3))), s.Len())
	}
	return out + fmt.Sprintln(told(s))
}

// P1: no call panics; P2: two runs of the same calls give the same answers.
func TestP1P2Runs(t *testing.T) {
	for seed := range int64(100) {
		if one, two := drive(seed), drive(seed); one != two {
			t.Fatalf("seed %d: two runs differ:\n%s\n%s", seed, one, two)
		}
	}
}
