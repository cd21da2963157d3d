package neigh_test

import (
	"bytes"
	"fmt"
	"math"
	"slices"
	"testing"

	"hearth/api"
	"hearth/neigh"
)

// The signatures that the chapter lists.
var (
	_ func() *neigh.Cache                                                           = neigh.New
	_ func(*neigh.Cache, api.Addr, api.MAC, uint64) []api.Packet                    = (*neigh.Cache).Learn
	_ func(*neigh.Cache, api.Addr, uint64) (api.MAC, bool)                          = (*neigh.Cache).Find
	_ func(*neigh.Cache, api.Packet, uint64) bool                                   = (*neigh.Cache).Hold
	_ func(*neigh.Cache, uint64)                                                    = (*neigh.Cache).Expire
	_ func(*neigh.Cache, api.Config, api.ARP, uint64) (api.ARP, bool, []api.Packet) = (*neigh.Cache).Hear
	_ func(api.Config, api.Addr) api.ARP                                            = neigh.Ask
	_ func(*neigh.Cache) (int, int)                                                 = (*neigh.Cache).Len
)

const (
	gate = 0xc0a80101
	a7   = 0xc0a80107
	a8   = 0xc0a80108
	a9   = 0xc0a80109
	far  = 0x08080808

	last = math.MaxUint64
)

func config() api.Config {
	return api.Config{
		LanMAC: api.MAC{2, 0, 0, 0, 0, 1}, WanMAC: api.MAC{2, 0, 0, 0, 1, 1}, HopMAC: api.MAC{2, 0, 0, 0, 1, 2},
		LanAddr: gate, LanBits: 24, WanAddr: 0xcb007105,
		MaxSessions: 4, MaxMaps: 2, MaxConns: 3, MaxSubs: 2, UUID: "00000000-1111-2222-3333-444444444444",
	}
}

// mac gives an Ethernet address of one alone.
func mac(n int) api.MAC { return api.MAC{2, 0, 0, 9, byte(n >> 8), byte(n)} }

// packet gives a packet that differs from others by its number in more than its ID.
func packet(dst api.Addr, n int) api.Packet {
	return api.Packet{TTL: byte(64 - n), Proto: api.UDP, ID: uint16(n), Src: far, Dst: dst, Body: fmt.Append(nil, "packet ", n)}
}

func show(list []api.Packet) string { return fmt.Sprintf("%+v", list) }

// gives wants just these packets to be given.
func gives(t *testing.T, name string, got []api.Packet, want ...api.Packet) {
	t.Helper()
	if len(got)+len(want) > 0 && show(got) != show(want) {
		t.Errorf("%s: %s, not %s", name, show(got), show(want))
	}
}

// finds wants a host to be known at a second.
func finds(t *testing.T, name string, c *neigh.Cache, a api.Addr, now uint64, want api.MAC) {
	t.Helper()
	if m, ok := c.Find(a, now); m != want || !ok {
		t.Errorf("%s: %#x at %d: %v, %t, not %v", name, a, now, m, ok, want)
	}
}

// misses wants a host not to be known at a second.
func misses(t *testing.T, name string, c *neigh.Cache, a api.Addr, now uint64) {
	t.Helper()
	if m, ok := c.Find(a, now); m != (api.MAC{}) || ok {
		t.Errorf("%s: %#x at %d: %v, %t", name, a, now, m, ok)
	}
}

// counts wants so many hosts to be known, and so many packets to be held.
func counts(t *testing.T, name string, c *neigh.Cache, hosts, packets int) {
	t.Helper()
	if h, p := c.Len(); h != hosts || p != packets {
		t.Errorf("%s: %d, %d, not %d, %d", name, h, p, hosts, packets)
	}
}

// holds wants what Hold tells of a packet.
func holds(t *testing.T, name string, c *neigh.Cache, p api.Packet, now uint64, want bool) {
	t.Helper()
	if got := c.Hold(p, now); got != want {
		t.Errorf("%s: %+v at %d: %t", name, p, now, got)
	}
}

func TestP24_1New(t *testing.T) {
	c := neigh.New()
	counts(t, "new", c, 0, 0)
	misses(t, "new", c, 0, 0)
	misses(t, "new", c, a7, last)
	c.Expire(last)
	counts(t, "new", c, 0, 0)
}

func TestP24_1Learn(t *testing.T) {
	c := neigh.New()
	gives(t, "nothing is held", c.Learn(a7, mac(7), 5))
	counts(t, "one", c, 1, 0)
	for _, now := range []uint64{5, 6, 304} {
		finds(t, "one", c, a7, now, mac(7))
		misses(t, "another one", c, a8, now)
	}
	for _, now := range []uint64{305, 306, last} {
		misses(t, "forgotten", c, a7, now)
	}
	counts(t, "forgotten, but not gone", c, 1, 0)

	c.Learn(a7, mac(77), 100)
	finds(t, "anew", c, a7, 399, mac(77))
	misses(t, "anew", c, a7, 400)
	c.Learn(a8, mac(77), 100)
	finds(t, "two with one address", c, a7, 399, mac(77))
	finds(t, "two with one address", c, a8, 399, mac(77))
	counts(t, "two", c, 2, 0)

	c.Learn(a7, mac(7), 500)
	finds(t, "behind its end", c, a7, 799, mac(7))
	counts(t, "behind its end", c, 2, 0)
}

// Learn takes any address, and any Ethernet address: only Hear asks whose they are.
func TestP24_1LearnAny(t *testing.T) {
	c := neigh.New()
	for i, a := range []api.Addr{0, 1, gate, far, 0xefffffff, math.MaxUint32} {
		c.Learn(a, api.MAC{255, 255, 255, 255, 255, byte(i)}, 0)
		finds(t, "any", c, a, 299, api.MAC{255, 255, 255, 255, 255, byte(i)})
	}
	c.Learn(a7, api.MAC{}, 0)
	finds(t, "a zero one", c, a7, 299, api.MAC{})
	counts(t, "any", c, 7, 0)
}

func TestP24_1LastSecond(t *testing.T) {
	for _, x := range []struct{ now, ends uint64 }{
		{0, 300}, {1, 301}, {last - 301, last - 1}, {last - 300, last}, {last - 299, last}, {last - 1, last}, {1 << 63, 1<<63 + 300},
	} {
		c := neigh.New()
		c.Learn(a7, mac(7), x.now)
		finds(t, "ahead of its end", c, a7, x.ends-1, mac(7))
		misses(t, "at its end", c, a7, x.ends)
		c.Expire(x.ends - 1)
		counts(t, "ahead of its end", c, 1, 0)
		c.Expire(x.ends)
		counts(t, "at its end", c, 0, 0)
	}
	c := neigh.New()
	c.Learn(a7, mac(7), last)
	misses(t, "at the last second", c, a7, last)
}

// full gives a Cache of 256 hosts; the i-th one is learned at the second that a function gives. They are learned as these seconds rise.
func full(addr func(i int) api.Addr, second func(i int) uint64) *neigh.Cache {
	var order []int
	for i := range 256 {
		order = append(order, i)
	}
	slices.SortStableFunc(order, func(a, b int) int {
		return int(int64(second(a)) - int64(second(b)))
	})
	c := neigh.New()
	for _, i := range order {
		c.Learn(addr(i), mac(i), second(i))
	}
	return c
}

// there wants all 256 hosts to be known at a second but those of these numbers.
func there(t *testing.T, name string, c *neigh.Cache, addr func(i int) api.Addr, now uint64, but ...int) {
	t.Helper()
	for i := range 256 {
		if slices.Contains(but, i) {
			misses(t, name, c, addr(i), now)
		} else {
			finds(t, name, c, addr(i), now, mac(i))
		}
	}
}

// spread gives addresses of which half are above 2^31.
func spread(i int) api.Addr { return api.Addr(i)<<24 | 9 }

func TestP24_1FullBySeconds(t *testing.T) {
	// The seconds are no two alike, and in no order by the addresses: 37 has no part in common with 256.
	c := full(spread, func(i int) uint64 { return uint64(i * 37 % 256) })
	counts(t, "256", c, 256, 0)
	there(t, "256", c, spread, 290)
	var gone []int
	for n := range 20 {
		c.Learn(api.Addr(1000+n), mac(1000+n), 256)
		for i := range 256 {
			if i*37%256 == n {
				gone = append(gone, i)
			}
		}
		counts(t, "one more", c, 256, 0)
		there(t, fmt.Sprint(n+1, " more"), c, spread, 256, gone...)
		finds(t, "one more", c, api.Addr(1000+n), 256, mac(1000+n))
	}
}

func TestP24_1FullByAddresses(t *testing.T) {
	for name, second := range map[string]uint64{"one second": 5, "sums that stop": last - 5} {
		back := func(i int) api.Addr { return spread(255 - i) } // So they aren't learned as the addresses rise.
		c := full(back, func(i int) uint64 { return second })
		var gone []int
		for n := range 20 {
			a := api.Addr(0xffff0000 + n)
			c.Learn(a, mac(1000+n), second+uint64(n/10))
			gone = append(gone, 255-n)
			there(t, name, c, back, second+2, gone...)
			finds(t, name, c, a, second+2, mac(1000+n))
			counts(t, name, c, 256, 0)
		}
	}
}

// The one that comes is none of the others, even if it would be forgotten first.
func TestP24_1FullTheNewOne(t *testing.T) {
	c := full(spread, func(i int) uint64 { return 5 })
	c.Learn(1, mac(1000), 5)
	finds(t, "the new one", c, 1, 5, mac(1000))
	there(t, "of the others the first", c, spread, 5, 0)
	c.Learn(2, mac(1001), 5)
	misses(t, "the one that was new", c, 1, 5)
	finds(t, "the new one", c, 2, 5, mac(1001))
	there(t, "of the others none", c, spread, 5, 0)
}

func TestP24_1FullRenewed(t *testing.T) {
	c := full(spread, func(i int) uint64 { return 5 })
	c.Learn(spread(0), mac(0), 6)
	counts(t, "renewed", c, 256, 0)
	there(t, "renewed", c, spread, 6)
	c.Learn(1, mac(1000), 6)
	there(t, "it isn't the first one any more", c, spread, 6, 1)
	c.Learn(spread(255), mac(255), 7)
	there(t, "renewed", c, spread, 7, 1)
	finds(t, "renewed", c, 1, 7, mac(1000))
}

// Those that are forgotten, but not gone, are in nobody's way but one another's.
func TestP24_1FullOfForgotten(t *testing.T) {
	c := full(spread, func(i int) uint64 { return 5 + uint64(i%2)*1000 })
	for n := range 128 {
		c.Learn(api.Addr(n), mac(1000+n), 1010)
		counts(t, "forgotten", c, 256, 0)
	}
	for i := range 256 {
		if i%2 == 1 {
			finds(t, "not forgotten", c, spread(i), 1010, mac(i))
		}
	}
	for n := range 128 {
		finds(t, "new", c, api.Addr(n), 1010, mac(1000+n))
	}
}

// An address that is forgotten to make room for another one has no part in packets.
func TestP24_1FullPackets(t *testing.T) {
	c := full(spread, func(i int) uint64 { return 5 })
	holds(t, "of the first", c, packet(spread(0), 1), 5, true)
	holds(t, "of the new one", c, packet(1, 2), 5, true)
	gives(t, "of the new one", c.Learn(1, mac(1), 5), packet(1, 2))
	counts(t, "of the first", c, 256, 1)
	gives(t, "of the first", c.Learn(spread(0), mac(0), 5), packet(spread(0), 1))
}

func TestP24_1Held(t *testing.T) {
	c := neigh.New()
	for i, a := range []api.Addr{a7, a8, a7, a9, a7, a8} {
		c.Hold(packet(a, i), uint64(i/2))
	}
	gives(t, "of nobody", c.Learn(far, mac(1), 3)) // Src is no Dst.
	counts(t, "all", c, 1, 6)
	gives(t, "of .7", c.Learn(a7, mac(7), 3), packet(a7, 0), packet(a7, 2), packet(a7, 4))
	counts(t, "those of the others", c, 2, 3)
	gives(t, "no more held", c.Learn(a7, mac(7), 3))
	gives(t, "of .9", c.Learn(a9, mac(9), 3), packet(a9, 3))
	c.Hold(packet(a8, 6), 3)
	gives(t, "of .8", c.Learn(a8, mac(8), 3), packet(a8, 1), packet(a8, 5), packet(a8, 6))
	counts(t, "none", c, 4, 0)
}

// Packets are held until they are given, or Expire is called, whatever second it is by then.
func TestP24_1HeldLong(t *testing.T) {
	c := neigh.New()
	c.Hold(packet(a7, 1), 5)
	gives(t, "late", c.Learn(a7, mac(7), 1000), packet(a7, 1))
}

func TestP24_2Hold(t *testing.T) {
	c := neigh.New()
	holds(t, "the first one", c, packet(a7, 1), 5, true)
	holds(t, "another one at that second", c, packet(a7, 2), 5, false)
	holds(t, "one of another host", c, packet(a8, 3), 5, true)
	holds(t, "one more", c, packet(a7, 4), 5, false)
	holds(t, "at the next second", c, packet(a7, 5), 6, true)
	holds(t, "another one at that second", c, packet(a7, 6), 6, false)
	holds(t, "of the other host", c, packet(a8, 7), 7, true)
	counts(t, "all are held", c, 0, 7)
	gives(t, "in order", c.Learn(a7, mac(7), 7), packet(a7, 1), packet(a7, 2), packet(a7, 4), packet(a7, 5), packet(a7, 6))
	holds(t, "none is held any more", c, packet(a7, 8), 7, true)
	holds(t, "that one is", c, packet(a7, 9), 7, false)
}

// That its Dst is known plays no part in it.
func TestP24_2HoldOfOneKnown(t *testing.T) {
	c := neigh.New()
	c.Learn(a7, mac(7), 5)
	holds(t, "known", c, packet(a7, 1), 5, true)
	counts(t, "known", c, 1, 1)
}

func TestP24_2Bound(t *testing.T) {
	c := neigh.New()
	for i := range 16 {
		holds(t, "up to 16", c, packet(api.Addr(a7+i/2), i), 5, i%2 == 0)
	}
	counts(t, "16", c, 0, 16)
	holds(t, "one more", c, packet(a7, 16), 5, false)
	holds(t, "of another host", c, packet(far, 17), 5, true)
	holds(t, "it wasn't held", c, packet(far, 18), 5, true)
	holds(t, "at the next second", c, packet(a7, 19), 6, true)
	holds(t, "nor was that one", c, packet(a7, 20), 6, true)
	counts(t, "16", c, 0, 16)
	gives(t, "not held", c.Learn(far, mac(1), 6))
	gives(t, "held", c.Learn(a7, mac(7), 6), packet(a7, 0), packet(a7, 1))
	holds(t, "there is room", c, packet(a7, 21), 6, true)
	holds(t, "that one is held", c, packet(a7, 22), 6, false)
	counts(t, "16", c, 2, 16)
	holds(t, "there is none any more", c, packet(a7, 23), 6, false)
	gives(t, "held", c.Learn(a7, mac(7), 6), packet(a7, 21), packet(a7, 22))
}

func TestP24_3Hosts(t *testing.T) {
	c := neigh.New()
	c.Learn(a7, mac(7), 5)
	c.Learn(a9, mac(9), 6)
	c.Learn(a8, mac(8), 7)
	c.Expire(304)
	counts(t, "none is gone", c, 3, 0)
	c.Expire(305)
	counts(t, "one is gone", c, 2, 0)
	finds(t, "another one", c, a9, 305, mac(9))
	c.Expire(307)
	counts(t, "all are", c, 0, 0)
	misses(t, "gone", c, a8, 307)
}

func TestP24_3Packets(t *testing.T) {
	c := neigh.New()
	for i, second := range []uint64{5, 5, 6, 7, 8} {
		c.Hold(packet(api.Addr(a7+i%2), i), second)
	}
	for _, x := range []struct {
		now  uint64
		want int
	}{{5, 5}, {7, 5}, {8, 3}, {9, 2}} {
		c.Expire(x.now)
		counts(t, fmt.Sprint(x.now), c, 0, x.want)
	}
	holds(t, "at its second", c, packet(a8, 5), 8, true)
	gives(t, "those that stay", c.Learn(a7, mac(7), 9), packet(a7, 4))
	gives(t, "those that stay", c.Learn(a8, mac(8), 9), packet(a8, 3), packet(a8, 5))
}

func TestP24_3PacketsAtTheEnds(t *testing.T) {
	for _, x := range []struct {
		came, now uint64
		want      int
	}{
		{0, 0, 1}, {0, 2, 1}, {0, 3, 0}, {0, last, 0}, {1, 3, 1}, {1, 4, 0},
		{last - 3, last, 0}, {last - 2, last, 1}, {last - 1, last, 1}, {last, last, 1}, {1 << 63, 1<<63 + 2, 1}, {1 << 63, 1<<63 + 3, 0},
	} {
		c := neigh.New()
		c.Hold(packet(a7, 1), x.came)
		c.Expire(x.now)
		counts(t, fmt.Sprint(x), c, 0, x.want)
	}
}

// What is gone makes room, and is asked for anew.
func TestP24_3Room(t *testing.T) {
	c := neigh.New()
	for i := range 16 {
		c.Hold(packet(a7, i), 5)
	}
	c.Expire(8)
	holds(t, "there is room", c, packet(a7, 16), 8, true)
	gives(t, "only that one", c.Learn(a7, mac(7), 8), packet(a7, 16))
}

// question gives a host's question for the gateway's address.
func question(src api.Addr, from api.MAC) api.ARP {
	return api.ARP{Op: 1, From: from, To: api.MAC{}, Src: src, Dst: gate}
}

func TestP24_4Hear(t *testing.T) {
	c := neigh.New()
	c.Hold(packet(a7, 1), 5)
	c.Hold(packet(a8, 2), 5)
	c.Hold(packet(a7, 3), 6)
	a, asked, held := c.Hear(config(), question(a7, mac(7)), 6)
	if want := (api.ARP{Op: 2, From: config().LanMAC, To: mac(7), Src: gate, Dst: a7}); a != want || !asked {
		t.Errorf("%v, %t, not %v", a, asked, want)
	}
	gives(t, "held", held, packet(a7, 1), packet(a7, 3))
	finds(t, "learned", c, a7, 305, mac(7))
	misses(t, "learned", c, a7, 306)
	counts(t, "learned", c, 1, 1)
}

// What isn't a question for the gateway's own address is learned, too, and isn't answered.
func TestP24_4LearnedOnly(t *testing.T) {
	for name, x := range map[string]api.ARP{
		"an answer":                        {Op: 2, From: mac(7), To: config().LanMAC, Src: a7, Dst: gate},
		"a question for another one":       {Op: 1, From: mac(7), Src: a7, Dst: a8},
		"for the WAN's address":            {Op: 1, From: mac(7), Src: a7, Dst: config().WanAddr},
		"for its own":                      {Op: 1, From: mac(7), Src: a7, Dst: a7},
		"for 0":                            {Op: 1, From: mac(7), Src: a7},
		"another Op":                       {Op: 3, From: mac(7), Src: a7, Dst: gate},
		"no Op":                            {From: mac(7), Src: a7, Dst: gate},
		"an Op whose last byte is that":    {Op: 257, From: mac(7), Src: a7, Dst: gate},
		"an answer for all":                {Op: 2, From: mac(7), To: api.MAC{255, 255, 255, 255, 255, 255}, Src: a7, Dst: a7},
		"a question with another one's To": {Op: 1, From: mac(7), To: mac(8), Src: a7, Dst: a8},
	} {
		c := neigh.New()
		c.Hold(packet(a7, 1), 5)
		a, asked, held := c.Hear(config(), x, 5)
		if a != (api.ARP{}) || asked {
			t.Errorf("%s: %v, %t", name, a, asked)
		}
		gives(t, name, held, packet(a7, 1))
		finds(t, name, c, a7, 304, mac(7))
		counts(t, name, c, 1, 0)
	}
}

func TestP24_4Asked(t *testing.T) {
	for name, x := range map[string]api.ARP{
		"with a To":                   {Op: 1, From: mac(7), To: mac(9), Src: a7, Dst: gate},
		"to all":                      {Op: 1, From: mac(7), To: api.MAC{255, 255, 255, 255, 255, 255}, Src: a7, Dst: gate},
		"from a zero one":             {Op: 1, Src: a7, Dst: gate},
		"from all bits but the least": {Op: 1, From: api.MAC{254, 255, 255, 255, 255, 255}, Src: a7, Dst: gate},
		"from the gateway's own":      {Op: 1, From: config().LanMAC, Src: a7, Dst: gate},
	} {
		c := neigh.New()
		a, asked, held := c.Hear(config(), x, 5)
		if want := (api.ARP{Op: 2, From: config().LanMAC, To: x.From, Src: gate, Dst: a7}); a != want || !asked || len(held) != 0 {
			t.Errorf("%s: %v, %t, %v, not %v", name, a, asked, held, want)
		}
		finds(t, name, c, a7, 304, x.From)
	}
}

func TestP24_4NotBelieved(t *testing.T) {
	for name, x := range map[string]api.ARP{
		"without a host's address": question(far, mac(7)),
		"from the gateway's":       question(gate, mac(7)),
		"from the WAN's":           question(config().WanAddr, mac(7)),
		"from the net's":           question(0xc0a80100, mac(7)),
		"from all of the net":      question(0xc0a801ff, mac(7)),
		"from another net":         question(0xc0a80207, mac(7)),
		"from 0":                   question(0, mac(7)),
		"from all":                 question(math.MaxUint32, mac(7)),
		"from a group":             question(a7, api.MAC{1, 0, 0x5e, 0, 0, 1}),
		"from all by Ethernet":     question(a7, api.MAC{255, 255, 255, 255, 255, 255}),
		"from a group of its own":  question(a7, api.MAC{3}),
		"an answer of a group":     {Op: 2, From: api.MAC{1}, To: config().LanMAC, Src: a7, Dst: gate},
		"an answer from elsewhere": {Op: 2, From: mac(7), To: config().LanMAC, Src: far, Dst: gate},
	} {
		c := neigh.New()
		c.Learn(a8, mac(8), 5)
		c.Hold(packet(x.Src, 1), 5)
		a, asked, held := c.Hear(config(), x, 5)
		if a != (api.ARP{}) || asked || len(held) != 0 {
			t.Errorf("%s: %v, %t, %v", name, a, asked, held)
		}
		misses(t, name, c, x.Src, 5)
		counts(t, name, c, 1, 1)
		gives(t, name, c.Learn(x.Src, mac(1), 5), packet(x.Src, 1))
	}
}

// Only the first byte's bit of the least weight tells a group.
func TestP24_4Bits(t *testing.T) {
	for i := range 48 {
		var m api.MAC
		m[i/8] = 1 << (i % 8)
		c := neigh.New()
		if _, asked, _ := c.Hear(config(), question(a7, m), 5); asked != (i != 0) {
			t.Errorf("%v: %t", m, asked)
		}
	}
}

// The configuration that is handed in says whose addresses are hosts'.
func TestP24_4OtherConfig(t *testing.T) {
	other := config()
	other.LanAddr, other.LanBits, other.LanMAC = 0x0a000001, 8, api.MAC{4, 5, 6, 7, 8, 9}
	c := neigh.New()
	a, asked, _ := c.Hear(other, api.ARP{Op: 1, From: mac(7), Src: 0x0a010203, Dst: 0x0a000001}, 5)
	if want := (api.ARP{Op: 2, From: other.LanMAC, To: mac(7), Src: 0x0a000001, Dst: 0x0a010203}); a != want || !asked {
		t.Errorf("%v, %t, not %v", a, asked, want)
	}
	if a, asked, _ := c.Hear(other, question(a7, mac(7)), 5); a != (api.ARP{}) || asked {
		t.Errorf("%v, %t", a, asked)
	}
	counts(t, "one", c, 1, 0)
}

func TestP24_4HearWhenFull(t *testing.T) {
	addr := func(i int) api.Addr { return api.Addr(0x0a000000 + i) }
	c := full(addr, func(i int) uint64 { return 5 })
	c.Hear(config(), question(a7, mac(7)), 5)
	there(t, "the first one made room", c, addr, 5, 0)
	finds(t, "the new one", c, a7, 5, mac(7))
	counts(t, "full", c, 256, 0)
}

func TestP24_4Ask(t *testing.T) {
	for _, a := range []api.Addr{a7, gate, far, 0, math.MaxUint32} {
		if got, want := neigh.Ask(config(), a), (api.ARP{Op: 1, From: config().LanMAC, Src: gate, Dst: a}); got != want {
			t.Errorf("%#x: %v, not %v", a, got, want)
		}
	}
	if got := neigh.Ask(api.Config{}, 0); got != (api.ARP{Op: 1}) {
		t.Errorf("%v", got)
	}
}

// P24.5: packets are held in memory of their own.
func TestP24_5HandedIn(t *testing.T) {
	room := []byte("one two three")
	before := bytes.Clone(room)
	c := neigh.New()
	c.Hold(api.Packet{Dst: a7, Body: room[:3]}, 5)
	c.Hold(api.Packet{Dst: a7, Body: room[4:7]}, 5)
	c.Hold(api.Packet{Dst: a8, Body: room}, 5)
	c.Expire(6)
	if !bytes.Equal(room, before) {
		t.Errorf("%q", room)
	}
	clear(room)
	gives(t, "written over", c.Learn(a7, mac(7), 6), api.Packet{Dst: a7, Body: []byte("one")}, api.Packet{Dst: a7, Body: []byte("two")})
	if !bytes.Equal(room, make([]byte, len(room))) {
		t.Errorf("%q", room)
	}
	gives(t, "written over", c.Learn(a8, mac(8), 6), api.Packet{Dst: a8, Body: before})
}

func TestP24_5Empty(t *testing.T) {
	c := neigh.New()
	room := []byte("room")
	for _, b := range [][]byte{nil, {}, room[:0], room[4:]} {
		c.Hold(api.Packet{Dst: a7, Body: b}, 5)
	}
	for i, p := range c.Learn(a7, mac(7), 5) {
		if len(p.Body) != 0 {
			t.Errorf("%d: %v", i, p)
		}
		_ = append(p.Body, "written"...)
	}
	if string(room) != "room" {
		t.Errorf("%q", room)
	}
}

// scribble writes over all of a list, its spare room too.
func scribble(list []api.Packet) {
	for _, p := range list {
		b := p.Body[:cap(p.Body)]
		for i := range b {
			b[i] = '#'
		}
	}
	clear(list[:cap(list)])
}

func TestP24_5Answers(t *testing.T) {
	c := neigh.New()
	for i := range 12 {
		c.Hold(packet(api.Addr(a7+i%3), i), 5)
	}
	list := c.Learn(a7, mac(7), 5)
	gives(t, "given", list, packet(a7, 0), packet(a7, 3), packet(a7, 6), packet(a7, 9))
	scribble(list[:1:1])
	gives(t, "they share nothing", list[1:], packet(a7, 3), packet(a7, 6), packet(a7, 9))
	scribble(list)
	_, _, list = c.Hear(config(), question(a8, mac(8)), 5)
	gives(t, "nor with what is held", list, packet(a8, 1), packet(a8, 4), packet(a8, 7), packet(a8, 10))
	for i := range 4 {
		c.Hold(packet(a8, 20+i), 6)
	}
	gives(t, "nor with what comes", list, packet(a8, 1), packet(a8, 4), packet(a8, 7), packet(a8, 10))
	scribble(list)
	gives(t, "nor with other answers", c.Learn(a8, mac(8), 6), packet(a8, 20), packet(a8, 21), packet(a8, 22), packet(a8, 23))
	gives(t, "nor with what is held", c.Learn(a9, mac(9), 6), packet(a9, 2), packet(a9, 5), packet(a9, 8), packet(a9, 11))
}

// What is done to one Cache isn't seen in another.
func TestP24_5Two(t *testing.T) {
	c, d := neigh.New(), neigh.New()
	c.Learn(a7, mac(7), 5)
	c.Hold(packet(a8, 1), 5)
	counts(t, "another one", d, 0, 0)
	misses(t, "another one", d, a7, 5)
	holds(t, "another one", d, packet(a8, 2), 5, true)
	gives(t, "its own", d.Learn(a8, mac(8), 5), packet(a8, 2))
	counts(t, "the one", c, 1, 1)
}
