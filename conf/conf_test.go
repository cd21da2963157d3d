package conf_test

import (
	"bytes"
	"fmt"
	"math"
	"math/rand"
	"reflect"
	"slices"
	"strings"
	"testing"

	"hearth/api"
	"hearth/conf"
	"hearth/inet"
)

// The signatures that the chapter lists.
var (
	_ func(api.Config) api.Errno                         = conf.Check
	_ func(api.Config, api.Addr) bool                    = conf.Host
	_ func(api.Config, byte, uint16) (api.Forward, bool) = conf.Find
	_ func(string) bool                                  = conf.UUID
	_ func(api.Config) api.Config                        = conf.Copy
)

const rightUUID = "01234567-89ab-cdef-0000-99999fffffff"

// right gives a configuration that is right, without forwards.
func right() api.Config {
	return api.Config{
		LanMAC: api.MAC{2, 1, 1, 1, 1, 1}, WanMAC: api.MAC{4, 1, 1, 1, 1, 3}, HopMAC: api.MAC{0xfe, 0xff, 5, 5, 5, 5},
		LanAddr: addr("192.168.1.1"), WanAddr: addr("203.0.113.5"), LanBits: 24,
		MaxSessions: 8, MaxMaps: 4, MaxConns: 3, MaxSubs: 2, UUID: rightUUID,
	}
}

// addr gives the address of a text, which must be right.
func addr(s string) api.Addr {
	a, ok := inet.Parse(s)
	if !ok {
		panic(s)
	}
	return a
}

// many gives so many forwards that are right, each of another port.
func many(n int) []api.Forward {
	out := make([]api.Forward, n)
	for i := range out {
		out[i] = api.Forward{Proto: api.TCP, Port: uint16(i + 1), To: 8080, Host: addr("192.168.1.7")}
	}
	return out
}

// change is what is done to a configuration that is right, and whether it is right then.
type change struct {
	name string
	do   func(*api.Config)
	want bool
}

func checkAll(t *testing.T, changes ...change) {
	t.Helper()
	for _, ch := range changes {
		c, want := right(), api.ErrConf
		ch.do(&c)
		if ch.want {
			want = api.OK
		}
		if got := conf.Check(c); got != want {
			t.Errorf("%s: Check: %v, not %v", ch.name, got, want)
		}
	}
}

func TestP9_1Right(t *testing.T) {
	checkAll(t, change{"as it is", func(*api.Config) {}, true})
	all := right()
	all.Forwards = []api.Forward{
		{Proto: api.TCP, Port: 80, To: 8080, Host: addr("192.168.1.7")},
		{Proto: api.UDP, Port: 80, To: 1, Host: addr("192.168.1.254")},
		{Proto: api.UDP, Port: 65535, To: 65535, Host: addr("192.168.1.2")},
	}
	all.DMZ = addr("192.168.1.32")
	if got := conf.Check(all); got != api.OK {
		t.Errorf("with forwards and a DMZ: %v", got)
	}
	if got := conf.Check(api.Config{}); got != api.ErrConf {
		t.Errorf("noughts: %v", got)
	}
}

func TestP9_1LanBits(t *testing.T) {
	for bits := -40; bits < 80; bits++ {
		checkAll(t, change{fmt.Sprint("LanBits ", bits), func(c *api.Config) {
			c.LanBits = bits
			// Neither all 0 nor all 1 behind any of the bits that may be.
			c.LanAddr = addr("10.42.42.41")
		}, bits >= 8 && bits <= 30})
	}
	for _, bits := range []int{math.MinInt, -1 << 32, 24 - 1<<32, 24 - 256, 24 + 256, 24 + 1<<32, math.MaxInt} {
		checkAll(t, change{fmt.Sprint("LanBits ", bits), func(c *api.Config) { c.LanBits = bits }, false})
	}
}

func TestP9_1LanAddr(t *testing.T) {
	for a, want := range map[string]bool{
		"192.168.1.0/24": false, "192.168.1.1/24": true, "192.168.1.128/24": true, "192.168.1.254/24": true, "192.168.1.255/24": false,
		"10.0.0.0/8": false, "10.0.0.1/8": true, "10.255.255.254/8": true, "10.255.255.255/8": false,
		"10.0.1.0/8": true, "10.0.0.255/8": true, "10.255.255.0/8": true, "10.128.0.0/8": true, "10.127.255.255/8": true,
		"10.1.0.0/15": true, "10.1.0.0/16": false, "10.0.255.255/15": true, "10.0.255.255/16": false,
		"10.1.1.4/30": false, "10.1.1.5/30": true, "10.1.1.6/30": true, "10.1.1.7/30": false,
		"0.0.0.0/8": false, "0.0.0.1/8": true, "255.255.255.255/8": false, "255.255.255.254/8": true, "224.0.0.1/8": true,
	} {
		checkAll(t, change{"LanAddr " + a, func(c *api.Config) {
			text, bits, _ := strings.Cut(a, "/")
			c.LanAddr = addr(text)
			fmt.Sscan(bits, &c.LanBits)
		}, want})
	}
}

func TestP9_1WanAddr(t *testing.T) {
	for a, want := range map[string]bool{
		"0.0.0.0": false, "0.0.0.1": true, "255.255.255.255": false, "255.255.255.254": true,
		"192.168.1.0": false, "192.168.1.1": false, "192.168.1.9": false, "192.168.1.255": false,
		"192.168.0.255": true, "192.168.2.0": true, "192.168.0.1": true, "64.168.1.9": true, "10.0.0.1": true, "224.0.0.1": true,
	} {
		checkAll(t, change{"WanAddr " + a, func(c *api.Config) { c.WanAddr = addr(a) }, want})
	}
	for bits, want := range map[int]bool{8: false, 16: false, 22: false, 23: true, 30: true} {
		checkAll(t, change{fmt.Sprint("WanAddr, LanBits ", bits), func(c *api.Config) {
			c.LanBits, c.WanAddr = bits, addr("192.168.2.9")
		}, want})
	}
}

func TestP9_1MACs(t *testing.T) {
	for first := range 256 {
		for name, mac := range map[string]func(*api.Config) *api.MAC{
			"LanMAC": func(c *api.Config) *api.MAC { return &c.LanMAC },
			"WanMAC": func(c *api.Config) *api.MAC { return &c.WanMAC },
			"HopMAC": func(c *api.Config) *api.MAC { return &c.HopMAC },
		} {
			checkAll(t, change{fmt.Sprint(name, " ", first), func(c *api.Config) { mac(c)[0] = byte(first) }, first%2 == 0})
		}
	}
	checkAll(t,
		change{"two are odd", func(c *api.Config) { c.LanMAC[0], c.WanMAC[0] = 1, 1 }, false},
		change{"two others are odd", func(c *api.Config) { c.WanMAC[0], c.HopMAC[0] = 3, 255 }, false},
		change{"all are odd", func(c *api.Config) { c.LanMAC[0], c.WanMAC[0], c.HopMAC[0] = 1, 1, 1 }, false},
		change{"the bytes behind are odd", func(c *api.Config) {
			c.LanMAC, c.WanMAC, c.HopMAC = api.MAC{0, 1, 1, 1, 1, 1}, api.MAC{0, 255, 255, 255, 255, 255}, api.MAC{0, 3, 3, 3, 3, 3}
		}, true},
		change{"all are noughts", func(c *api.Config) { c.LanMAC, c.WanMAC, c.HopMAC = api.MAC{}, api.MAC{}, api.MAC{} }, true},
	)
}

func TestP9_1Counts(t *testing.T) {
	for _, count := range []struct {
		name string
		most int
		of   func(*api.Config) *int
	}{
		{"MaxSessions", 4096, func(c *api.Config) *int { return &c.MaxSessions }},
		{"MaxMaps", 256, func(c *api.Config) *int { return &c.MaxMaps }},
		{"MaxConns", 32, func(c *api.Config) *int { return &c.MaxConns }},
		{"MaxSubs", 16, func(c *api.Config) *int { return &c.MaxSubs }},
	} {
		for n, want := range map[int]bool{
			math.MinInt: false, -1 << 32: false, -1: false, 0: false, 1: true, 2: true,
			count.most - 1: true, count.most: true, count.most + 1: false, 1<<16 + 1: false, 1<<32 + 1: false, math.MaxInt: false,
		} {
			checkAll(t, change{fmt.Sprint(count.name, " ", n), func(c *api.Config) { *count.of(c) = n }, want})
		}
	}
}

func TestP9_1HowManyForwards(t *testing.T) {
	for n, want := range map[int]bool{0: true, 1: true, 2: true, 31: true, 32: true, 33: false, 34: false, 65535: false} {
		checkAll(t, change{fmt.Sprint(n, " forwards"), func(c *api.Config) { c.Forwards = many(n) }, want})
	}
	checkAll(t, change{"a list without forwards", func(c *api.Config) { c.Forwards = []api.Forward{} }, true})
}

// One forward that isn't right makes all wrong, wherever it stands.
func TestP9_1EachForward(t *testing.T) {
	one := func(name string, do func(*api.Forward), want bool) {
		t.Helper()
		for _, place := range []int{0, 1, 15, 31} {
			checkAll(t, change{fmt.Sprint("forward ", place, ": ", name), func(c *api.Config) {
				c.Forwards = many(32)
				do(&c.Forwards[place])
			}, want})
		}
	}
	for proto := range 256 {
		one(fmt.Sprint("Proto ", proto), func(f *api.Forward) { f.Proto = byte(proto) }, proto == api.TCP || proto == api.UDP)
	}
	one("Port 0", func(f *api.Forward) { f.Port = 0 }, false)
	one("Port 65535", func(f *api.Forward) { f.Port = 65535 }, true)
	one("To 0", func(f *api.Forward) { f.To = 0 }, false)
	one("To 1", func(f *api.Forward) { f.To = 1 }, true)
	one("To 65535", func(f *api.Forward) { f.To = 65535 }, true)
	for a, want := range map[string]bool{
		"0.0.0.0": false, "192.168.1.0": false, "192.168.1.1": false, "192.168.1.2": true, "192.168.1.254": true,
		"192.168.1.255": false, "192.168.2.7": false, "203.0.113.5": false, "255.255.255.255": false,
	} {
		one("Host "+a, func(f *api.Forward) { f.Host = addr(a) }, want)
	}
	one("noughts", func(f *api.Forward) { *f = api.Forward{} }, false)
}

// Two forwards of one Proto and one Port aren't right, whatever else they have, and wherever they stand.
func TestP9_1ForwardsTwice(t *testing.T) {
	for later := range 32 {
		for earlier := range later {
			checkAll(t,
				change{fmt.Sprint("one Proto and Port: ", earlier, ", ", later), func(c *api.Config) {
					c.Forwards = many(32)
					c.Forwards[later] = api.Forward{Proto: api.TCP, Port: c.Forwards[earlier].Port, To: 9, Host: addr("192.168.1.9")}
				}, false},
				change{fmt.Sprint("another Proto: ", earlier, ", ", later), func(c *api.Config) {
					c.Forwards = many(32)
					c.Forwards[later] = c.Forwards[earlier]
					c.Forwards[later].Proto = api.UDP
				}, true},
			)
		}
	}
}

func TestP9_1DMZ(t *testing.T) {
	for a, want := range map[string]bool{
		"0.0.0.0": true, "0.0.0.1": false, "192.168.1.0": false, "192.168.1.1": false, "192.168.1.2": true,
		"192.168.1.254": true, "192.168.1.255": false, "192.168.2.7": false, "203.0.113.5": false, "255.255.255.255": false,
	} {
		checkAll(t, change{"DMZ " + a, func(c *api.Config) { c.DMZ = addr(a) }, want})
	}
}

func TestP9_1UUID(t *testing.T) {
	for s, want := range map[string]bool{
		"": false, rightUUID: true, "00000000-1111-2222-3333-444444444444": true,
		strings.ToUpper(rightUUID): false, rightUUID + "0": false, rightUUID[1:]: false, "uuid:" + rightUUID: false,
	} {
		checkAll(t, change{fmt.Sprintf("UUID %q", s), func(c *api.Config) { c.UUID = s }, want})
	}
}

// The chapter's example, and the edges of the net.
func TestP9_2Host(t *testing.T) {
	for a, want := range map[string]bool{
		"192.168.1.7": true, "192.168.1.0": false, "192.168.1.1": false, "192.168.1.255": false, "192.168.2.7": false,
		"192.168.1.2": true, "192.168.1.127": true, "192.168.1.128": true, "192.168.1.254": true,
		"192.168.0.7": false, "192.168.0.255": false, "192.168.2.0": false, "64.168.1.7": false,
		"0.0.0.0": false, "0.0.0.7": false, "255.255.255.255": false, "203.0.113.5": false,
	} {
		if got := conf.Host(right(), addr(a)); got != want {
			t.Errorf("Host of %s: %t", a, got)
		}
	}
}

// What is no configuration that Check lets pass has hosts, too.
func TestP9_2HostAnyBits(t *testing.T) {
	for _, v := range []struct {
		lan  string
		bits []int
		a    string
		want bool
	}{
		{"10.0.0.1", []int{0, -1, -24, math.MinInt}, "192.168.1.7", true},
		{"10.0.0.1", []int{0, -1, -24, math.MinInt}, "0.0.0.1", true},
		{"10.0.0.1", []int{0, -1, -24, math.MinInt}, "255.255.255.254", true},
		{"10.0.0.1", []int{0, -1, -24, math.MinInt}, "0.0.0.0", false},
		{"10.0.0.1", []int{0, -1, -24, math.MinInt}, "255.255.255.255", false},
		{"10.0.0.1", []int{0, -1, -24, math.MinInt}, "10.0.0.1", false},
		{"0.0.0.0", []int{1}, "127.255.255.254", true},
		{"0.0.0.0", []int{1}, "127.255.255.255", false},
		{"0.0.0.0", []int{1}, "128.0.0.1", false},
		{"192.168.1.0", []int{24}, "192.168.1.7", true},
		{"192.168.1.0", []int{24}, "192.168.1.0", false},
		{"192.168.1.0", []int{31}, "192.168.1.1", false},
		{"192.168.1.1", []int{31}, "192.168.1.0", false},
		{"192.168.1.1", []int{31, 32, 33, 64, 256, math.MaxInt}, "192.168.1.1", false},
		{"192.168.1.1", []int{32, 33, 64, 256, math.MaxInt}, "192.168.1.7", false},
	} {
		for _, bits := range v.bits {
			c := api.Config{LanAddr: addr(v.lan), LanBits: bits}
			if got := conf.Host(c, addr(v.a)); got != v.want {
				t.Errorf("Host of %s in %s with %d bits: %t", v.a, v.lan, bits, got)
			}
		}
	}
}

// modelHost tells it by the bits one by one, as the texts of the addresses have them.
func modelHost(c api.Config, a api.Addr) bool {
	own, other := fmt.Sprintf("%032b", c.LanAddr), fmt.Sprintf("%032b", a)
	bits := c.LanBits
	if bits < 0 {
		bits = 0
	} else if bits > 32 {
		bits = 32
	}
	behind := other[bits:]
	edge := behind != "" && (strings.Count(behind, "0") == len(behind) || strings.Count(behind, "1") == len(behind))
	return own[:bits] == other[:bits] && own != other && !edge
}

// behindBits gives the bits of addresses behind the first ones.
func behindBits(bits int) api.Addr { return ^api.Addr(0) >> min(max(bits, 0), 32) }

func TestP9_2HostModel(t *testing.T) {
	r := rand.New(rand.NewSource(1))
	hosts := 0
	for range 100000 {
		c := api.Config{LanAddr: api.Addr(r.Uint32()), LanBits: r.Intn(45) - 5}
		a := c.LanAddr ^ api.Addr(1)<<r.Intn(32)
		behind := behindBits(c.LanBits)
		switch r.Intn(5) {
		case 0:
			a |= behind
		case 1:
			a &^= behind
		case 2:
			a = c.LanAddr&^behind | api.Addr(r.Uint32())&behind
		case 3:
			a = api.Addr(r.Uint32())
		}
		want := modelHost(c, a)
		if got := conf.Host(c, a); got != want {
			t.Fatalf("Host of %s in %s with %d bits: %t", inet.Text(a), inet.Text(c.LanAddr), c.LanBits, got)
		}
		if want {
			hosts++
		}
	}
	if hosts < 1000 {
		t.Errorf("only %d are hosts", hosts)
	}
}

// A host's address hangs on nothing but LanAddr and LanBits.
func TestP9_2HostOfAny(t *testing.T) {
	c := api.Config{LanAddr: addr("192.168.1.1"), LanBits: 24}
	if !conf.Host(c, addr("192.168.1.7")) {
		t.Error("all else is noughts: no host")
	}
	c.WanAddr, c.DMZ = addr("192.168.1.7"), addr("192.168.1.8")
	if !conf.Host(c, c.WanAddr) || !conf.Host(c, c.DMZ) {
		t.Error("WanAddr, DMZ: no host")
	}
}

func TestP9_2Find(t *testing.T) {
	c := right()
	c.Forwards = []api.Forward{
		{Proto: api.TCP, Port: 80, To: 8080, Host: addr("192.168.1.7")},
		{Proto: api.UDP, Port: 80, To: 1, Host: addr("192.168.1.8")},
		{Proto: api.UDP, Port: 81, To: 2, Host: addr("192.168.1.9")},
		{Proto: api.TCP, Port: 65535, To: 3, Host: addr("192.168.1.10")},
	}
	for _, f := range c.Forwards {
		if got, ok := conf.Find(c, f.Proto, f.Port); got != f || !ok {
			t.Errorf("Find(%d, %d): %v, %t", f.Proto, f.Port, got, ok)
		}
	}
	none := func(c api.Config, proto byte, port uint16) {
		t.Helper()
		if got, ok := conf.Find(c, proto, port); got != (api.Forward{}) || ok {
			t.Errorf("Find(%d, %d): %v, %t", proto, port, got, ok)
		}
	}
	for _, port := range []uint16{0, 1, 79, 82, 8080, 65534} {
		none(c, api.TCP, port)
		none(c, api.UDP, port)
	}
	none(c, api.TCP, 81)
	none(c, api.UDP, 65535)
	none(c, api.UDP, 2)
	for _, proto := range []byte{0, api.ICMP, 7, 16, 18, 255} {
		none(c, proto, 80)
	}
	none(right(), api.TCP, 80)
	none(api.Config{}, 0, 0)
}

// Of any configuration: there may be several of one port, and of no protocol, the spare room plays no part.
func TestP9_2FindFirst(t *testing.T) {
	all := []api.Forward{{Proto: api.UDP, Port: 7, To: 1}, {Proto: api.TCP, Port: 7, To: 2}, {Proto: api.TCP, Port: 7, To: 3}, {To: 4}, {}, {Proto: 255, Port: 1}}
	c := api.Config{Forwards: all[:5]}
	for _, want := range all[:5] {
		if want == all[2] || want == all[4] {
			continue
		}
		if got, ok := conf.Find(c, want.Proto, want.Port); got != want || !ok {
			t.Errorf("Find(%d, %d): %v, %t", want.Proto, want.Port, got, ok)
		}
	}
	if got, ok := conf.Find(c, 255, 1); got != (api.Forward{}) || ok {
		t.Errorf("Find in the spare room: %v, %t", got, ok)
	}
	c.Forwards = many(60000)
	if got, ok := conf.Find(c, api.TCP, 60000); got != c.Forwards[59999] || !ok {
		t.Errorf("Find of the last one: %v, %t", got, ok)
	}
}

// Each byte in each place: - in four of them, and digits in all others.
func TestP9_2UUIDEachPlace(t *testing.T) {
	digits := "0123456789abcdef"
	for place := range 36 {
		may := digits
		if place == 8 || place == 13 || place == 18 || place == 23 {
			may = "-"
		}
		for b := range 256 {
			s := []byte(rightUUID)
			s[place] = byte(b)
			if got, want := conf.UUID(string(s)), strings.IndexByte(may, byte(b)) >= 0; got != want {
				t.Errorf("UUID(%q): %t", s, got)
			}
		}
	}
}

func TestP9_2UUIDWrong(t *testing.T) {
	for _, s := range []string{
		"", "-", "----", "0", strings.Repeat("0", 36), strings.Repeat("-", 36), strings.ReplaceAll(rightUUID, "-", ""),
		"{" + rightUUID + "}", "uuid:" + rightUUID, " " + rightUUID, rightUUID + "\n", rightUUID + "\x00", rightUUID + rightUUID,
		strings.ToUpper(rightUUID), rightUUID[:35], rightUUID[:35] + " ", rightUUID[1:] + "g",
		"0123456-789ab-cdef-0000-99999fffffff0", "0123456789ab-cdef-0000-99999-fffffff",
		// 36 characters, but more bytes; 36 bytes, but fewer characters: among them such as have a digit's last bits.
		"\u0660" + rightUUID[1:], "\u0130" + rightUUID[1:], rightUUID[:8] + "\u2010" + rightUUID[9:],
		"\u0660" + rightUUID[2:], "\u0130" + rightUUID[2:], "\U00010030" + rightUUID[4:], rightUUID[:7] + "\u012d" + rightUUID[9:],
		rightUUID[:34] + "\u0661", rightUUID[:33] + "\uff10", rightUUID[:35] + "\xff", rightUUID[:35] + "\xc4", "\xb0" + rightUUID[1:],
	} {
		if conf.UUID(s) {
			t.Errorf("UUID(%q): true", s)
		}
	}
	for size := range 80 {
		if got := conf.UUID((rightUUID + strings.Repeat("0", 44))[:size]); got != (size == 36) {
			t.Errorf("UUID of %d bytes: %t", size, got)
		}
	}
}

// full gives a configuration of which no field is nought: that none is forgotten, all are looked at.
func full(t *testing.T) api.Config {
	t.Helper()
	c := right()
	c.DMZ = addr("192.168.1.32")
	c.Forwards = many(3)
	for i, v := 0, reflect.ValueOf(c); i < v.NumField(); i++ {
		if v.Field(i).IsZero() {
			t.Fatalf("%s is nought", v.Type().Field(i).Name)
		}
	}
	return c
}

func TestP9_2Copy(t *testing.T) {
	c := full(t)
	if got := conf.Copy(c); !reflect.DeepEqual(got, c) {
		t.Errorf("Copy: %v, not %v", got, c)
	}
	wrong := api.Config{LanBits: -7, MaxSubs: math.MaxInt, Forwards: many(1000), UUID: "\xff"}
	if got := conf.Copy(wrong); !reflect.DeepEqual(got, wrong) {
		t.Errorf("Copy of a wrong one: %v", got)
	}
	for _, none := range [][]api.Forward{nil, {}, many(3)[:0]} {
		c.Forwards = none
		got := conf.Copy(c)
		if len(got.Forwards) != 0 {
			t.Errorf("Copy without forwards: %v", got)
		}
		got.Forwards, c.Forwards = nil, nil
		if !reflect.DeepEqual(got, c) {
			t.Errorf("Copy without forwards: %v", got)
		}
	}
}

// spoil writes over all of the forwards' room, the spare one too.
func spoil(f []api.Forward) {
	f = f[:cap(f)]
	for i := range f {
		f[i] = api.Forward{Proto: 0xee}
	}
}

func TestP9_2CopyIsNew(t *testing.T) {
	for _, size := range []int{0, 1, 3, 5} {
		c := right()
		whole := many(5)
		c.Forwards = whole[:size]
		one, two := conf.Copy(c), conf.Copy(c)
		spoil(one.Forwards)
		if !slices.Equal(whole, many(5)) {
			t.Errorf("%d: a copy and what was copied share memory", size)
		}
		if !slices.Equal(two.Forwards, many(5)[:size]) {
			t.Errorf("%d: two copies share memory", size)
		}
		_ = append(two.Forwards, api.Forward{}, api.Forward{})
		if !slices.Equal(whole, many(5)) {
			t.Errorf("%d: a copy has what was copied as its spare room", size)
		}
		two = conf.Copy(c)
		spoil(whole)
		if !slices.Equal(two.Forwards, many(5)[:size]) {
			t.Errorf("%d: Copy keeps what it was given", size)
		}
	}
}

func TestP9_3ArgumentsUnchanged(t *testing.T) {
	c := full(t)
	whole := many(40)
	for i := range whole {
		// Not in any order, for what is put in order would be seen.
		whole[i].Port = uint16(i*7919%1009 + 1)
	}
	before := slices.Clone(whole)
	for _, size := range []int{0, 3, 32, 33} {
		c.Forwards = whole[:size]
		want := c
		conf.Check(c)
		conf.Host(c, 7)
		conf.Find(c, api.TCP, whole[2].Port)
		conf.UUID(c.UUID)
		conf.Copy(c)
		if !reflect.DeepEqual(c, want) || !slices.Equal(whole, before) {
			t.Errorf("with %d forwards: what was handed in has changed", size)
		}
	}
}

func TestP9_3NothingIsKept(t *testing.T) {
	c := full(t)
	conf.Check(c)
	found, _ := conf.Find(c, api.TCP, 2)
	want := many(3)[1]
	spoil(c.Forwards)
	if found != want {
		t.Errorf("Find keeps what it was given: %v", found)
	}
	if got, ok := conf.Find(c, api.TCP, 2); ok {
		t.Errorf("Find knows of an earlier call: %v", got)
	}
	if got := conf.Check(c); got != api.ErrConf {
		t.Errorf("Check knows of an earlier call: %v", got)
	}
	text := []byte(rightUUID)
	conf.UUID(string(text))
	copy(text, bytes.Repeat([]byte("x"), 36))
	if !conf.UUID(rightUUID) {
		t.Error("UUID knows of an earlier call")
	}
}

// modelCheck tells the promise once more, the other way about: what is wrong, one by one.
func modelCheck(c api.Config) api.Errno {
	if c.LanBits < 8 || c.LanBits > 30 {
		return api.ErrConf
	}
	lan, wan := fmt.Sprintf("%032b", c.LanAddr), fmt.Sprintf("%032b", c.WanAddr)
	wrong := !strings.Contains(lan[c.LanBits:], "0") || !strings.Contains(lan[c.LanBits:], "1")
	wrong = wrong || !strings.Contains(wan, "0") || !strings.Contains(wan, "1") || lan[:c.LanBits] == wan[:c.LanBits]
	for _, mac := range []api.MAC{c.LanMAC, c.WanMAC, c.HopMAC} {
		wrong = wrong || mac[0]%2 == 1
	}
	for most, n := range map[int]int{4096: c.MaxSessions, 256: c.MaxMaps, 32: c.MaxConns, 16: c.MaxSubs} {
		wrong = wrong || n <= 0 || n > most
	}
	seen := map[string]int{}
	for _, f := range c.Forwards {
		seen[fmt.Sprint(f.Proto, f.Port)]++
		wrong = wrong || f.Proto != 6 && f.Proto != 17 || f.Port == 0 || f.To == 0 || !modelHost(c, f.Host)
	}
	wrong = wrong || len(seen) != len(c.Forwards) || len(seen) > 32
	wrong = wrong || c.DMZ != 0 && !modelHost(c, c.DMZ) || !conf.UUID(c.UUID)
	if wrong {
		return api.ErrConf
	}
	return api.OK
}

// near gives one of the numbers at a range's edges, or one between them: mostly one within it.
func near(r *rand.Rand, least, most int) int {
	if r.Intn(60) == 0 {
		return []int{least - 1, most + 1, -least, 0}[r.Intn(4)]
	}
	return []int{least, most, least + r.Intn(most-least+1)}[r.Intn(3)]
}

// some gives a configuration that the numbers of r choose: about as often right as not.
func some(r *rand.Rand) api.Config {
	c := right()
	c.LanBits = near(r, 8, 30)
	behind := behindBits(c.LanBits)
	host := func() api.Addr {
		if r.Intn(40) == 0 {
			return []api.Addr{0, c.LanAddr, c.LanAddr &^ behind, c.LanAddr | behind, c.LanAddr + behind + 1, 1<<32 - 1}[r.Intn(6)]
		}
		return c.LanAddr&^behind | api.Addr(r.Uint32())&behind
	}
	c.LanAddr = host()
	c.DMZ = host()
	if r.Intn(20) == 0 {
		c.WanAddr = []api.Addr{0, 1<<32 - 1, host(), host(), c.LanAddr + behind + 1}[r.Intn(5)]
	}
	c.MaxSessions, c.MaxMaps, c.MaxConns, c.MaxSubs = near(r, 1, 4096), near(r, 1, 256), near(r, 1, 32), near(r, 1, 16)
	for range r.Intn(4) {
		c.Forwards = append(c.Forwards, api.Forward{Proto: [2]byte{6, 17}[r.Intn(2)], Port: uint16(r.Intn(30)), To: uint16(r.Intn(30)), Host: host()})
	}
	return c
}

func TestP9_1Model(t *testing.T) {
	r := rand.New(rand.NewSource(2))
	count := map[api.Errno]int{}
	for range 50000 {
		c := some(r)
		want := modelCheck(c)
		if got := conf.Check(c); got != want {
			t.Fatalf("Check(%v): %v, not %v", c, got, want)
		}
		count[want]++
	}
	if count[api.OK] < 5000 || count[api.ErrConf] < 5000 {
		t.Errorf("not of both: %v", count)
	}
}

// drive does the calls that the numbers of seed choose, and tells what they answered.
func drive(seed int64) string {
	r := rand.New(rand.NewSource(seed))
	c := some(r)
	if r.Intn(2) == 0 {
		c.LanBits, c.MaxConns = int(r.Uint64()), int(r.Uint64())
		c.UUID = string(octets(r, r.Intn(50)))
	}
	text := octets(r, 36)
	found, ok := conf.Find(c, byte(r.Intn(256)), uint16(r.Intn(40)))
	return fmt.Sprintln(conf.Check(c), conf.Host(c, api.Addr(r.Uint32())), found, ok, conf.UUID(string(text)), conf.UUID(c.UUID), conf.Copy(c))
}

func octets(r *rand.Rand, n int) []byte {
	b := make([]byte, n)
	r.Read(b)
	return b
}

// P1: no call panics; P2: two runs of the same calls give the same answers.
func TestP1P2Runs(t *testing.T) {
	for seed := range int64(500) {
		if one, two := drive(seed), drive(seed); one != two {
			t.Fatalf("seed %d: two runs differ:\n%s\n%s", seed, one, two)
		}
	}
}
