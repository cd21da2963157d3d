package neigh_test

import (
	"fmt"
	"math"
	"math/big"
	"math/rand"
	"slices"
	"testing"

	"hearth/api"
	"hearth/neigh"
)

// entry is a host of the model's. Its end is a sum that doesn't stop.
type entry struct {
	addr api.Addr
	mac  api.MAC
	ends *big.Int
}

// wait is a packet of the model's.
type wait struct {
	p    api.Packet
	came uint64
}

// model does what the chapter says by going through all that there is, each time anew.
type model struct {
	hosts []entry // in no order
	held  []wait
}

func number(n uint64) *big.Int { return new(big.Int).SetUint64(n) }

// sum gives a sum, or the greatest number of 64 bits, if that is below it.
func sum(a, b uint64) *big.Int {
	s := new(big.Int).Add(number(a), number(b))
	if s.Cmp(number(math.MaxUint64)) > 0 {
		return number(math.MaxUint64)
	}
	return s
}

func (m *model) learn(a api.Addr, mac api.MAC, now uint64) []api.Packet {
	m.hosts = slices.DeleteFunc(m.hosts, func(e entry) bool { return e.addr == a })
	if len(m.hosts) == 256 {
		slices.SortFunc(m.hosts, func(x, y entry) int {
			if o := x.ends.Cmp(y.ends); o != 0 {
				return o
			}
			return number(uint64(x.addr)).Cmp(number(uint64(y.addr)))
		})
		m.hosts = m.hosts[1:]
	}
	m.hosts = append(m.hosts, entry{a, mac, sum(now, 300)})
	var given []api.Packet
	var stay []wait
	for _, w := range m.held {
		if w.p.Dst == a {
			given = append(given, w.p)
		} else {
			stay = append(stay, w)
		}
	}
	m.held = stay
	return given
}

func (m *model) find(a api.Addr, now uint64) (api.MAC, bool) {
	for _, e := range m.hosts {
		if e.addr == a && e.ends.Cmp(number(now)) > 0 {
			return e.mac, true
		}
	}
	return api.MAC{}, false
}

func (m *model) hold(p api.Packet, now uint64) bool {
	ask := true
	for _, w := range m.held {
		if w.p.Dst == p.Dst && w.came == now {
			ask = false
		}
	}
	if len(m.held) < 16 {
		m.held = append(m.held, wait{p, now})
	}
	return ask
}

func (m *model) expire(now uint64) {
	m.hosts = slices.DeleteFunc(m.hosts, func(e entry) bool { return e.ends.Cmp(number(now)) <= 0 })
	m.held = slices.DeleteFunc(m.held, func(w wait) bool {
		return new(big.Int).Add(number(w.came), number(3)).Cmp(number(now)) <= 0
	})
}

// hear is of the net 192.168.1.0 with 24 bits alone.
func (m *model) hear(a api.ARP, now uint64) (answer api.ARP, asked bool, held []api.Packet) {
	behind := a.Src & 255
	if a.Src>>8 != gate>>8 || behind == 0 || behind == 255 || a.Src == gate || a.From[0]%2 == 1 {
		return answer, false, nil
	}
	held = m.learn(a.Src, a.From, now)
	if a.Op == 1 && a.Dst == gate {
		return api.ARP{Op: 2, From: config().LanMAC, To: a.From, Src: gate, Dst: a.Src}, true, held
	}
	return answer, false, held
}

func oneOf[T any](r *rand.Rand, all ...T) T { return all[r.Intn(len(all))] }

// run is a cache, and a model that is given the same.
type run struct {
	*rand.Rand
	c     *neigh.Cache
	m     *model
	now   uint64
	hosts int // among how many addresses hosts are found
	held  int // how often of ten times something is held, not learned
	still int // how many steps there are to one at which time goes by
	id    int
	met   map[string]int
}

func begin(seed int64, met map[string]int) *run {
	r := rand.New(rand.NewSource(seed))
	return &run{
		Rand: r, c: neigh.New(), m: &model{}, met: met,
		now: oneOf[uint64](r, 0, 1000, 1<<63-20, last-1000, last-100), hosts: oneOf(r, 3, 8, 250, 600, 600), held: oneOf(r, 1, 4, 7), still: oneOf(r, 1, 1, 10, 30),
	}
}

// addr gives an address of which some are below, and some above those of the LAN's hosts.
func (r *run) addr() api.Addr { return api.Addr(0xc0a80200 - r.hosts + r.Intn(r.hosts)) }

func (r *run) mac() api.MAC { return api.MAC{byte(r.Intn(4)), 1, byte(r.Intn(3))} }

func (r *run) packet() api.Packet {
	r.id++
	return api.Packet{TTL: byte(r.Uint32()), Proto: byte(r.Uint32()), ID: uint16(r.id), Src: api.Addr(r.Uint32()), Dst: r.addr(), Body: fmt.Append(nil, r.id)}
}

// pass lets some seconds go by, as far as there are any.
func (r *run) pass() {
	if r.Intn(r.still) > 0 {
		return
	}
	n := oneOf[uint64](r.Rand, 0, 0, 0, 0, 1, 1, 2, 3, 40)
	if r.Intn(40) == 0 {
		n = oneOf[uint64](r.Rand, 250, 299, 300, 301)
	}
	r.now += min(n, last-r.now)
}

// step does one thing to both, and gives the answers.
func (r *run) step() (what, got, want string) {
	r.pass()
	if r.Intn(12*r.still) == 0 {
		r.c.Expire(r.now)
		r.m.expire(r.now)
		return "Expire", "", ""
	}
	if r.Intn(10) < r.held {
		p := r.packet()
		ask := r.c.Hold(p, r.now)
		r.met[fmt.Sprint("Hold ", len(r.m.held) == 16, ask)]++
		return "Hold", fmt.Sprint(ask), fmt.Sprint(r.m.hold(p, r.now))
	}
	known := len(r.m.hosts)
	if r.Intn(2) == 0 {
		a, m := r.addr(), r.mac()
		gotten, wanted := r.c.Learn(a, m, r.now), r.m.learn(a, m, r.now)
		r.met[fmt.Sprint("Learn ", min(len(wanted), 2))]++
		r.metFull(known)
		return "Learn", show(gotten), show(wanted)
	}
	x := api.ARP{Op: oneOf[uint16](r.Rand, 1, 1, 2), From: r.mac(), To: r.mac(), Src: r.addr(), Dst: oneOf(r.Rand, gate, gate, r.addr())}
	answer, asked, held := r.c.Hear(config(), x, r.now)
	answer2, asked2, held2 := r.m.hear(x, r.now)
	r.met[fmt.Sprint("Hear ", asked2, min(len(held2), 2))]++
	r.metFull(known)
	return "Hear", fmt.Sprint(answer, asked, show(held)), fmt.Sprint(answer2, asked2, show(held2))
}

// metFull counts how often one is learned, or renewed, when there are 256.
func (r *run) metFull(known int) {
	if known == 256 {
		r.met["full"]++
	}
}

// look gives what both tell of what they know.
func (r *run) look() (got, want string) {
	hosts, packets := r.c.Len()
	got, want = fmt.Sprint(hosts, packets), fmt.Sprint(len(r.m.hosts), len(r.m.held))
	for range 3 {
		a := r.addr()
		now := r.now + min(oneOf[uint64](r.Rand, 0, 0, 1, 260, 299, 300), last-r.now)
		m, ok := r.c.Find(a, now)
		got += fmt.Sprint(" ", m, ok)
		m, ok = r.m.find(a, now)
		want += fmt.Sprint(" ", m, ok)
		r.met[fmt.Sprint("Find ", ok)]++
	}
	return got, want
}

func TestP24ByTheModel(t *testing.T) {
	met := map[string]int{}
	for seed := range int64(120) {
		r := begin(seed, met)
		for i := range 1500 {
			what, got, want := r.step()
			if got != want {
				t.Fatalf("seed %d, step %d: %s: %s, not %s", seed, i, what, got, want)
			}
			if got, want := r.look(); got != want {
				t.Fatalf("seed %d, step %d: %s: %s, not %s", seed, i, what, got, want)
			}
		}
	}
	for _, what := range []string{
		"Find true", "Find false", "full", "Hold false true", "Hold false false", "Hold true true", "Hold true false",
		"Learn 0", "Learn 1", "Learn 2", "Hear true 0", "Hear true 1", "Hear true 2", "Hear false 0", "Hear false 1", "Hear false 2",
	} {
		if met[what] < 20 {
			t.Errorf("%s: met %d times", what, met[what])
		}
	}
}

func TestP2Runs(t *testing.T) {
	drive := func(seed int64) string {
		r, out := begin(seed, map[string]int{}), ""
		for range 400 {
			what, got, _ := r.step()
			found, _ := r.look()
			out += what + got + found + "\n"
		}
		return out
	}
	for seed := range int64(20) {
		if one, two := drive(seed), drive(seed); one != two {
			t.Fatalf("seed %d: two runs differ:\n%s\n%s", seed, one, two)
		}
	}
}

// P1: no call panics, whatever it is given.
func TestP1Wild(t *testing.T) {
	for seed := range int64(200) {
		r := rand.New(rand.NewSource(seed))
		c := neigh.New()
		for range 600 {
			conf := api.Config{LanAddr: oneOf[api.Addr](r, 0, gate, math.MaxUint32, api.Addr(r.Uint32())), LanBits: oneOf(r, -1, 0, 1, 8, 24, 31, 32, 33, math.MinInt, math.MaxInt)}
			a := oneOf[api.Addr](r, 0, a7, math.MaxUint32, api.Addr(r.Uint32()))
			now := oneOf(r, 0, 1, last, last-1, r.Uint64()) // It may fall, too.
			var m api.MAC
			r.Read(m[:])
			switch r.Intn(6) {
			case 0:
				c.Learn(a, m, now)
			case 1:
				b := make([]byte, r.Intn(100))
				r.Read(b)
				c.Hold(api.Packet{Src: a, Dst: a, Body: b}, now)
			case 2:
				c.Expire(now)
			case 3:
				c.Find(a, now)
			case 4:
				c.Hear(conf, api.ARP{Op: uint16(r.Intn(4)), From: m, To: m, Src: a, Dst: oneOf(r, conf.LanAddr, a)}, now)
			case 5:
				neigh.Ask(conf, a)
			}
			if hosts, packets := c.Len(); hosts > 256 || packets > 16 {
				t.Fatalf("seed %d: %d, %d", seed, hosts, packets)
			}
		}
	}
}
