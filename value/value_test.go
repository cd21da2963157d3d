package value_test

import (
	"fmt"
	"math"
	"math/big"
	"math/rand"
	"regexp"
	"strings"
	"testing"

	"hearth/api"
	"hearth/inet"
	"hearth/value"
)

// The signatures that the chapter lists.
var (
	_ func(string, uint64) (uint64, bool) = value.Num
	_ func(string) (bool, bool)           = value.Flag
	_ func(string) (api.Addr, bool)       = value.Addr
	_ func(string) (byte, bool)           = value.Proto
	_ func(string) bool                   = value.Words
	_ func(uint64) string                 = value.Text
	_ func(bool) string                   = value.Yes
	_ func(byte) string                   = value.Way
)

func TestP19_1Num(t *testing.T) {
	for _, c := range []struct {
		s    string
		most uint64
		want uint64
		ok   bool
	}{
		{"007", 65535, 7, true}, {"0", 0, 0, true}, {"0000000000", 0, 0, true}, {"1", 0, 0, false}, {"1", 1, 1, true}, {"65535", 65535, 65535, true}, {"65536", 65535, 0, false},
		{"4294967295", 4294967295, 4294967295, true}, {"4294967296", 4294967295, 0, false}, {"4294967296", math.MaxUint64, 4294967296, true}, {"9999999999", 9999999999, 9999999999, true}, {"9999999999", 9999999998, 0, false}, {"9999999999", math.MaxUint64, 9999999999, true},
		{"00000000000", math.MaxUint64, 0, false}, {"00000000001", math.MaxUint64, 0, false}, {"10000000000", math.MaxUint64, 0, false}, {"18446744073709551615", math.MaxUint64, 0, false}, {strings.Repeat("9", 1000), math.MaxUint64, 0, false},
		{"", math.MaxUint64, 0, false}, {" 1", 9, 0, false}, {"1 ", 9, 0, false}, {"+1", 9, 0, false}, {"-1", 9, 0, false}, {"-0", 9, 0, false}, {"1.", 9, 0, false}, {"1_0", 99, 0, false}, {"0x1", 9, 0, false}, {"a", 99, 0, false}, {"1a", 99, 0, false}, {"1\x00", 9, 0, false}, {"\u0661", 9, 0, false}, {"1e1", 99, 0, false}, {"1,0", 99, 0, false},
	} {
		if got, ok := value.Num(c.s, c.most); got != c.want || ok != c.ok {
			t.Errorf("Num(%.30q, %d): %d, %t, not %d, %t", c.s, c.most, got, ok, c.want, c.ok)
		}
	}
}

func TestP19_1NumByTheModel(t *testing.T) {
	digits := regexp.MustCompile(`\A[0-9]{1,10}\z`)
	r := rand.New(rand.NewSource(1))
	right := 0
	for range 40000 {
		b := make([]byte, r.Intn(13))
		for i := range b {
			b[i] = "0123456789"[r.Intn(10)]
			if r.Intn(40) == 0 {
				b[i] = byte(r.Intn(256))
			}
		}
		most := r.Uint64() >> uint(r.Intn(64))
		var want uint64
		n, ok := new(big.Int).SetString(string(b), 10)
		fine := digits.Match(b) && ok && n.Cmp(new(big.Int).SetUint64(most)) <= 0
		if fine {
			want = n.Uint64()
			right++
		}
		if got, ok := value.Num(string(b), most); got != want || ok != fine {
			t.Fatalf("Num(%q, %d): %d, %t, not %d, %t", b, most, got, ok, want, fine)
		}
	}
	if right < 1000 {
		t.Errorf("only %d were right", right)
	}
}

func TestP19_1Text(t *testing.T) {
	for n, want := range map[uint64]string{0: "0", 1: "1", 9: "9", 10: "10", 100: "100", 604800: "604800", 65535: "65535", math.MaxUint32: "4294967295", math.MaxUint64: "18446744073709551615", 1 << 63: "9223372036854775808"} {
		if got := value.Text(n); got != want {
			t.Errorf("Text(%d): %q", n, got)
		}
	}
	r := rand.New(rand.NewSource(1))
	for range 5000 {
		n := r.Uint64() >> uint(r.Intn(64))
		if got := value.Text(n); got != fmt.Sprint(n) {
			t.Fatalf("Text(%d): %q", n, got)
		}
		if back, ok := value.Num(value.Text(n), math.MaxUint64); n < 10000000000 && (back != n || !ok) {
			t.Fatalf("Num of Text(%d): %d, %t", n, back, ok)
		}
	}
}

func TestP19_2Flag(t *testing.T) {
	for s, want := range map[string]bool{"1": true, "true": true, "yes": true, "0": false, "false": false, "no": false} {
		if flag, ok := value.Flag(s); flag != want || !ok {
			t.Errorf("Flag(%q): %t, %t", s, flag, ok)
		}
	}
	for _, s := range []string{"", "True", "TRUE", "Yes", "YES", "False", "No", "NO", "2", "01", "00", "10", " 1", "1 ", "true ", "on", "off", "y", "t", "tru", "truee", "n", "non", "-1", "1\x00", "\u0661"} {
		if flag, ok := value.Flag(s); flag || ok {
			t.Errorf("Flag(%q): %t, %t", s, flag, ok)
		}
	}
	if value.Yes(true) != "1" || value.Yes(false) != "0" {
		t.Errorf("Yes: %q, %q", value.Yes(true), value.Yes(false))
	}
}

func TestP19_2Proto(t *testing.T) {
	for s, want := range map[string]byte{"TCP": 6, "UDP": 17} {
		if got, ok := value.Proto(s); got != want || !ok {
			t.Errorf("Proto(%q): %d, %t", s, got, ok)
		}
	}
	for _, s := range []string{"", "tcp", "udp", "Tcp", "Udp", "TCP ", " TCP", "UDP ", " UDP", "TC", "TCPP", "UD", "UDPP", "ICMP", "6", "17", "TCPUDP", "TCP\x00"} {
		if got, ok := value.Proto(s); got != 0 || ok {
			t.Errorf("Proto(%q): %d, %t", s, got, ok)
		}
	}
	for n := range 256 {
		want := map[int]string{6: "TCP", 17: "UDP"}[n]
		if got := value.Way(byte(n)); got != want {
			t.Errorf("Way(%d): %q", n, got)
		}
	}
}

func TestP19_3Addr(t *testing.T) {
	for s, want := range map[string]api.Addr{"": 0, "0.0.0.0": 0, "192.168.1.7": 0xc0a80107, "255.255.255.255": 0xffffffff, "8.8.4.4": 0x08080404} {
		if got, ok := value.Addr(s); got != want || !ok {
			t.Errorf("Addr(%q): %v, %t", s, got, ok)
		}
	}
	for _, s := range []string{" ", "0", ".", "...", "1.2.3", "1.2.3.4.5", "1.2.3.4 ", " 1.2.3.4", "01.2.3.4", "256.1.1.1", "1.2.3.", "1.2.3.a", "1..2.3", "-1.2.3.4", "\x00", "::1"} {
		if got, ok := value.Addr(s); got != 0 || ok {
			t.Errorf("Addr(%q): %v, %t", s, got, ok)
		}
	}
	r := rand.New(rand.NewSource(1))
	for range 20000 {
		s := inet.Text(api.Addr(r.Uint32()))
		if i := r.Intn(2 * len(s)); i < len(s) {
			s = s[:i] + string("0123456789. x"[r.Intn(13)]) + s[i+r.Intn(2):]
		}
		want, right := inet.Parse(s)
		if got, ok := value.Addr(s); got != want || ok != right {
			t.Fatalf("Addr(%q): %v, %t, not %v, %t", s, got, ok, want, right)
		}
	}
}

func TestP19_3Words(t *testing.T) {
	for n := range 200 {
		for _, c := range "a ~" {
			if got := value.Words(strings.Repeat(string(c), n)); got != (n <= 64) {
				t.Errorf("Words of %d bytes: %t", n, got)
			}
		}
	}
	for c := range 256 {
		b := string([]byte{byte(c)})
		for _, s := range []string{b, "a" + b, b + "a", strings.Repeat("a", 63) + b} {
			if got := value.Words(s); got != (32 <= c && c <= 126) {
				t.Errorf("Words(%q): %t", s, got)
			}
		}
	}
	for _, s := range []string{"\u00e9", "a\tb", "a\nb", "\u212a"} {
		if value.Words(s) {
			t.Errorf("Words(%q)", s)
		}
	}
}

// drive calls all that there is with wild arguments, and gives what was answered.
func drive(seed int64) string {
	r := rand.New(rand.NewSource(seed))
	var s strings.Builder
	const alphabet = "0123456789.TCPUDPtrueyesfalseno \x00\xff"
	for range 3000 {
		b := make([]byte, r.Intn(1<<uint(r.Intn(8))))
		for i := range b {
			b[i] = alphabet[r.Intn(len(alphabet))]
		}
		text := string(b)
		n, number := value.Num(text, r.Uint64())
		flag, known := value.Flag(text)
		a, address := value.Addr(text)
		proto, told := value.Proto(text)
		fmt.Fprintln(&s, n, number, flag, known, a, address, proto, told, value.Words(text), value.Way(byte(r.Intn(256))), value.Text(r.Uint64()), value.Yes(r.Intn(2) == 0))
	}
	return s.String()
}

func TestP1P2Runs(t *testing.T) {
	for seed := range int64(4) {
		if a, b := drive(seed), drive(seed); a != b {
			t.Errorf("seed %d: two runs differ", seed)
		}
	}
}
