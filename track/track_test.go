package track_test

import (
	"fmt"
	"math/rand"
	"testing"

	"hearth/api"
	"hearth/track"
)

// The signatures that the chapter lists.
var (
	_ func(byte) bool                       = track.Begins
	_ func(api.State, byte, bool) api.State = track.Next
	_ func(byte, api.State) uint64          = track.Limit
)

// state gives the state of which marks tell: S, F of what went out, s, f of what came in, R.
func state(marks string) api.State {
	var s api.State
	for _, m := range marks {
		switch m {
		case 'S':
			s.SynOut = true
		case 's':
			s.SynIn = true
		case 'F':
			s.FinOut = true
		case 'f':
			s.FinIn = true
		case 'R':
			s.Rst = true
		}
	}
	return s
}

// states gives all states that there are.
func states() []api.State {
	var out []api.State
	for n := range 32 {
		out = append(out, api.State{SynOut: n&1 != 0, SynIn: n&2 != 0, FinOut: n&4 != 0, FinIn: n&8 != 0, Rst: n&16 != 0})
	}
	return out
}

func TestP11_1Begins(t *testing.T) {
	for _, c := range []struct {
		flags byte
		want  bool
	}{
		{0, false},
		{api.SYN, true},
		{api.ACK, false},
		{api.RST, false},
		{api.FIN, false},
		{api.PSH, false},
		{api.SYN | api.ACK, false},
		{api.SYN | api.RST, false},
		{api.SYN | api.ACK | api.RST, false},
		{api.SYN | api.FIN, true},
		{api.SYN | api.PSH, true},
		{api.SYN | 32 | 64 | 128, true},
		{255 &^ (api.ACK | api.RST), true},
		{255, false},
	} {
		if got := track.Begins(c.flags); got != c.want {
			t.Errorf("Begins(%08b): %t", c.flags, got)
		}
	}
}

// All flags: the bits but those of SYN, RST and ACK play no part.
func TestP11_1BeginsAll(t *testing.T) {
	for n := range 256 {
		bits := fmt.Sprintf("%08b", n)
		want := bits[6] == '1' && bits[5] == '0' && bits[3] == '0'
		if got := track.Begins(byte(n)); got != want {
			t.Errorf("Begins(%s): %t", bits, got)
		}
	}
}

func TestP11_1Next(t *testing.T) {
	for _, c := range []struct {
		s     string
		flags byte
		out   bool
		want  string
	}{
		{"", 0, true, ""},
		{"", 0, false, ""},
		{"", api.ACK, true, ""},
		{"", api.PSH | api.ACK, false, ""},
		{"", api.SYN, true, "S"},
		{"", api.SYN, false, "s"},
		{"", api.SYN | api.ACK, true, "S"},
		{"S", api.SYN | api.ACK, false, "Ss"},
		{"Ss", api.ACK, true, "Ss"},
		{"Ss", api.FIN | api.ACK, true, "SsF"},
		{"Ss", api.FIN, false, "Ssf"},
		{"SsF", api.FIN | api.ACK, false, "SsFf"},
		{"SsF", api.FIN, true, "SsF"},
		{"Ss", api.RST, true, "SsR"},
		{"Ss", api.RST | api.ACK, false, "SsR"},
		{"S", api.FIN | api.RST, false, "SfR"},
		{"", api.SYN | api.FIN, true, "SF"},
		{"", api.SYN | api.FIN | api.RST, false, "sfR"},
		{"", 255, true, "SFR"},
		{"", 255, false, "sfR"},
		// Behind one that is over a segment that begins one, and goes out, does so anew.
		{"SsFf", api.SYN, true, "S"},
		{"R", api.SYN, true, "S"},
		{"SsFfR", api.SYN, true, "S"},
		{"Ff", api.SYN, true, "S"},
		{"SsFf", api.SYN | api.FIN, true, "S"},
		{"SsFf", api.SYN | api.PSH | 128, true, "S"},
		// It isn't over.
		{"SsF", api.SYN, true, "SsF"},
		{"Ssf", api.SYN, true, "Ssf"},
		{"sf", api.SYN, true, "Ssf"},
		// It comes in.
		{"SsFf", api.SYN, false, "SsFf"},
		{"SFf", api.SYN, false, "SsFf"},
		{"R", api.SYN, false, "sR"},
		// It begins none.
		{"sFf", api.SYN | api.ACK, true, "SsFf"},
		{"R", api.SYN | api.RST, true, "SR"},
		{"SsFf", api.ACK, true, "SsFf"},
		{"SsFf", api.RST, false, "SsFfR"},
	} {
		if got := track.Next(state(c.s), c.flags, c.out); got != state(c.want) {
			t.Errorf("Next(%q, %08b, %t): %v, not %q", c.s, c.flags, c.out, got, c.want)
		}
	}
}

// Each state, with all flags, both ways.
func TestP11_1NextAll(t *testing.T) {
	for _, s := range states() {
		for n := range 256 {
			bits := fmt.Sprintf("%08b", n)
			fin, syn, rst, ack := bits[7] == '1', bits[6] == '1', bits[5] == '1', bits[3] == '1'
			in := api.State{SynOut: s.SynOut, SynIn: s.SynIn || syn, FinOut: s.FinOut, FinIn: s.FinIn || fin, Rst: s.Rst || rst}
			if got := track.Next(s, byte(n), false); got != in {
				t.Errorf("Next(%v, %s, false): %v, not %v", s, bits, got, in)
			}
			out := api.State{SynOut: s.SynOut || syn, SynIn: s.SynIn, FinOut: s.FinOut || fin, FinIn: s.FinIn, Rst: s.Rst || rst}
			if syn && !ack && !rst && (s.Rst || s.FinOut && s.FinIn) {
				out = state("S")
			}
			if got := track.Next(s, byte(n), true); got != out {
				t.Errorf("Next(%v, %s, true): %v, not %v", s, bits, got, out)
			}
		}
	}
}

func TestP11_2Limit(t *testing.T) {
	for marks, want := range map[string]uint64{
		"": 240, "S": 240, "s": 240, "Ss": 7440,
		"SsF": 7440, "Ssf": 7440, "SsFf": 240, "SsR": 240, "SsFfR": 240, "SsFR": 240,
		"F": 240, "f": 240, "Ff": 240, "R": 240, "SF": 240, "Sf": 240, "sFf": 240, "SR": 240,
	} {
		if got := track.Limit(api.TCP, state(marks)); got != want {
			t.Errorf("Limit(TCP, %q): %d, not %d", marks, got, want)
		}
	}
}

// Each protocol with each state, which plays a part but with TCP.
func TestP11_2LimitAll(t *testing.T) {
	for _, s := range states() {
		for proto := range 256 {
			want := uint64(0)
			switch proto {
			case 1:
				want = 60
			case 17:
				want = 300
			case 6:
				want = 240
				if s == state("Ss") || s == state("SsF") || s == state("Ssf") {
					want = 7440
				}
			}
			if got := track.Limit(byte(proto), s); got != want {
				t.Errorf("Limit(%d, %v): %d, not %d", proto, s, got, want)
			}
		}
	}
}

// The chapter's example, with what it lasts.
func TestP11_1P11_2Example(t *testing.T) {
	s := api.State{}
	for i, c := range []struct {
		flags byte
		out   bool
		limit uint64
	}{
		{api.SYN, true, 240}, {api.SYN | api.ACK, false, 7440}, {api.ACK, true, 7440},
		{api.FIN | api.ACK, true, 7440}, {api.ACK, false, 7440}, {api.FIN | api.ACK, false, 240}, {api.ACK, true, 240},
		{api.SYN, true, 240}, {api.SYN | api.ACK, false, 7440}, {api.RST, true, 240},
	} {
		s = track.Next(s, c.flags, c.out)
		if got := track.Limit(api.TCP, s); got != c.limit {
			t.Errorf("%d: %v lasts %d, not %d", i, s, got, c.limit)
		}
	}
}

// drive does the calls that the numbers of seed choose, and tells what they answered.
func drive(seed int64) string {
	r := rand.New(rand.NewSource(seed))
	out, s := "", api.State{}
	for range 100 {
		flags := byte(r.Uint32())
		s = track.Next(s, flags, r.Intn(2) == 0)
		out += fmt.Sprintln(s, track.Begins(flags), track.Limit(byte(r.Uint32()), s), track.Limit(api.TCP, s))
	}
	return out
}

// P1: no call panics; P2: two runs of the same calls give the same answers.
func TestP1P2Runs(t *testing.T) {
	for seed := range int64(100) {
		if one, two := drive(seed), drive(seed); one != two {
			t.Fatalf("seed %d: two runs differ:\n%s\n%s", seed, one, two)
		}
	}
}
