package stream_test

import (
	"fmt"
	"math/rand"
	"testing"

	"hearth/api"
	"hearth/stream"
)

// model is a connection told as the chapter tells it: all bytes that ever went are kept, and places count in them.
type model struct {
	phase      api.Phase
	from, to   uint16
	own, other uint32
	all        []byte // handed in
	una, next  int
	most       int
	closed     bool
	window     int
	got        []byte // received
	read       int
	seen       int
	ended      bool
	ticking    bool
	at         uint64
	tries      uint64
}

func (m *model) set(now uint64) {
	m.ticking, m.at = true, now+3
	for range m.tries {
		m.at += m.at - now
	}
}

func (m *model) emit(place int, flags byte, data []byte) api.Segment {
	s := api.Segment{From: m.from, To: m.to, Seq: m.own + uint32(place), Ack: m.other + uint32(m.seen), Flags: flags, Window: uint16(4096 - (len(m.got) - m.read)), Data: data}
	if flags == api.SYN {
		s.Ack = 0
	}
	return s
}

func (m *model) syn() api.Segment {
	if m.phase == api.Dialing {
		return m.emit(0, api.SYN, nil)
	}
	return m.emit(0, api.SYN|api.ACK, nil)
}

func modelAccept(s api.Segment, own uint32, now uint64) (*model, []api.Segment) {
	m := &model{phase: api.Accepted, from: s.To, to: s.From, own: own, other: s.Seq, seen: 1, next: 1, most: 1, window: int(s.Window)}
	m.set(now)
	return m, []api.Segment{m.syn()}
}

func modelDial(from, to uint16, own uint32, now uint64) (*model, []api.Segment) {
	m := &model{phase: api.Dialing, from: from, to: to, own: own, next: 1, most: 1}
	m.set(now)
	return m, []api.Segment{m.syn()}
}

// waits tells how many of the bytes, which stand at the places from 1 on, stand at Una or behind it.
func (m *model) waits() int { return max(0, min(len(m.all), len(m.all)+1-m.una)) }

func (m *model) send(b []byte) int {
	if m.phase == api.Over || m.phase == api.Gone || m.closed {
		return 0
	}
	n := 0
	for waits := m.waits(); n < len(b) && waits+n < 8192; n++ {
		m.all = append(m.all, b[n])
	}
	return n
}

// first gives the first segment that Flush sends.
func (m *model) first() []api.Segment {
	place, n := m.next, 0
	for n < 1000 && place+n <= len(m.all) && place+n < m.una+max(m.window, 1) {
		n++
	}
	if n > 0 {
		m.next += n
		m.most = max(m.most, m.next)
		return []api.Segment{m.emit(place, api.PSH|api.ACK, m.all[place-1:place-1+n])}
	}
	if place == len(m.all)+1 && m.closed {
		m.next++
		m.most = max(m.most, m.next)
		return []api.Segment{m.emit(place, api.FIN|api.ACK, nil)}
	}
	return nil
}

func (m *model) flush(now uint64) []api.Segment {
	if m.phase != api.Open {
		return nil
	}
	var out []api.Segment
	for {
		s := m.first()
		if s == nil {
			break
		}
		out = append(out, s...)
	}
	if len(out) > 0 && !m.ticking {
		m.set(now)
	}
	return out
}

func (m *model) tick(now uint64) []api.Segment {
	if !m.ticking || m.at > now || m.phase == api.Over || m.phase == api.Gone {
		return nil
	}
	m.tries++
	if m.tries > 5 {
		m.phase = api.Gone
		return []api.Segment{m.emit(m.next, api.RST|api.ACK, nil)}
	}
	m.set(now)
	if m.phase != api.Open {
		return []api.Segment{m.syn()}
	}
	m.next = m.una
	return m.first()
}

func (m *model) orACK(now uint64, due bool) []api.Segment {
	out := m.flush(now)
	if len(out) == 0 && due {
		out = []api.Segment{m.emit(m.next, api.ACK, nil)}
	}
	return out
}

func (m *model) take(s api.Segment, now uint64) []api.Segment {
	fin, syn, rst, ack := s.Flags&1 != 0, s.Flags&2 != 0, s.Flags&4 != 0, s.Flags&16 != 0
	switch m.phase {
	case api.Over, api.Gone:
		return nil
	case api.Dialing:
		if !ack || s.Ack != m.own+1 {
			return nil
		}
		if rst {
			m.phase = api.Gone
		} else if syn {
			m.other, m.seen, m.una, m.ticking, m.tries, m.window, m.phase = s.Seq, 1, 1, false, 0, int(s.Window), api.Open
			return m.orACK(now, true)
		}
		return nil
	}
	switch {
	case rst:
		if s.Seq == m.other+uint32(m.seen) {
			m.phase = api.Gone
		}
		return nil
	case syn && m.phase == api.Open:
		return []api.Segment{m.emit(m.next, api.ACK, nil)}
	case syn:
		if s.Seq == m.other {
			return []api.Segment{m.syn()}
		}
		return nil
	case !ack:
		return nil
	}
	for k := 0; m.una+k <= m.most; k++ {
		if s.Ack == m.own+uint32(m.una+k) {
			m.acknowledged(k, int(s.Window), now)
			break
		}
	}
	if m.phase == api.Accepted {
		return nil
	}
	m.data(s, fin)
	out := m.orACK(now, len(s.Data) > 0 || fin)
	if m.ended && m.closed && m.una > len(m.all)+1 {
		m.phase = api.Over
	}
	return out
}

func (m *model) acknowledged(k, window int, now uint64) {
	m.una += k
	m.window = window
	if k == 0 {
		return
	}
	m.tries = 0
	m.ticking = false
	if m.una != m.most {
		m.set(now)
	}
	m.next = max(m.next, m.una)
	m.phase = api.Open
}

func (m *model) data(s api.Segment, fin bool) {
	j := int64(int32(m.other + uint32(m.seen) - s.Seq))
	if m.ended || j < 0 || j > int64(len(s.Data)) {
		return
	}
	left := s.Data[j:]
	for len(left) > 0 && len(m.got)-m.read < 4096 {
		m.got = append(m.got, left[0])
		left = left[1:]
		m.seen++
	}
	if fin && len(left) == 0 {
		m.seen++
		m.ended = true
	}
}

func (m *model) reads() string {
	b := m.got[m.read:]
	m.read = len(m.got)
	return string(b)
}

func oneOf[T any](r *rand.Rand, all ...T) T { return all[r.Intn(len(all))] }

func bytesOf(r *rand.Rand, n int) []byte {
	b := make([]byte, n)
	r.Read(b)
	return b
}

// pair is a connection, a model that is given the same, and what the other side has sent so far.
type pair struct {
	*rand.Rand
	t      *testing.T
	c      *stream.Conn
	m      *model
	now    uint64
	went   map[string]int // how often what happened
	quiet  bool           // Little is heard of the other side.
	theirs []byte         // the other side's bytes, from its place 1 on
}

func newPair(t *testing.T, r *rand.Rand, went map[string]int) *pair {
	p := &pair{Rand: r, t: t, went: went, now: oneOf[uint64](r, 0, 7, 1<<62), quiet: r.Intn(8) == 0}
	p.theirs = bytesOf(r, 40000)
	own := oneOf(r, 0, 7, 1<<31, 1<<32-1, 1<<32-2000, r.Uint32())
	var got, want []api.Segment
	if r.Intn(2) == 0 {
		p.c, got = stream.Dial(80, 5000, own, p.now)
		p.m, want = modelDial(80, 5000, own, p.now)
	} else {
		s := api.Segment{From: 5000, To: 80, Seq: oneOf(r, 0, 99, 1<<31-9, 1<<32-1, 1<<32-3000, r.Uint32()), Flags: api.SYN, Window: p.window()}
		p.c, got = stream.Accept(s, own, p.now)
		p.m, want = modelAccept(s, own, p.now)
	}
	p.hold("begins", got, want)
	return p
}

func (p *pair) window() uint16 {
	return oneOf[uint16](p.Rand, 0, 1, 2, 500, 1000, 1500, 4096, 8192, 65535)
}

// place draws a place near some others, and at times any.
func (p *pair) place(near ...int) int {
	switch p.Intn(8) {
	case 0:
		return oneOf(p.Rand, near...) + p.Intn(7) - 3
	case 1:
		return int(p.Uint32())
	}
	return oneOf(p.Rand, near...)
}

func (p *pair) flags() byte {
	const ack = api.ACK
	return oneOf[byte](p.Rand, ack, ack, ack, ack, ack, ack, ack, ack, ack|api.PSH, ack|api.PSH, ack|api.PSH, ack|api.FIN, api.SYN|ack, api.SYN|ack, api.SYN, 0)
}

// segment draws one of the other side; with RST, and with FIN, but seldom.
func (p *pair) segment() api.Segment {
	m := p.m
	s := api.Segment{From: 5000, To: 80, Flags: p.flags(), Window: p.window()}
	if p.Intn(20) == 0 {
		s.Flags |= api.RST
	}
	if p.Intn(60) == 0 {
		s.Flags = byte(p.Uint32())
	}
	if p.Intn(3) != 0 {
		s.Flags &^= api.FIN
	}
	place := p.place(m.seen, m.seen, m.seen, m.seen, m.seen-1, m.seen-10, m.seen-1000, 0)
	s.Ack = m.own + uint32(p.place(m.una, m.una, m.most, m.most, m.next, m.una+1, (m.una+m.most)/2, m.una+1000, 1))
	s.Seq = m.other + uint32(place)
	if m.phase == api.Dialing {
		s.Seq = oneOf(p.Rand, 0, 99, 1<<32-1, p.Uint32())
	}
	if from := min(max(place-1, 0), len(p.theirs)); p.Intn(2) == 0 {
		s.Data = p.theirs[from:min(from+oneOf(p.Rand, 0, 1, 10, 500, 1000, 1460, 5000), len(p.theirs))]
	}
	return s
}

// step does one thing that is drawn.
func (p *pair) step() {
	p.now += oneOf[uint64](p.Rand, 0, 0, 0, 0, 0, 0, 1, 1, 3)
	what := p.Intn(20)
	if p.quiet && p.Intn(10) != 0 {
		what = 5
	}
	switch what {
	case 0, 1:
		b := bytesOf(p.Rand, oneOf(p.Rand, 0, 1, 10, 999, 1000, 1001, 3000, 9000))
		if got, want := p.c.Send(b), p.m.send(b); got != want {
			p.t.Fatalf("Send of %d: %d, not %d", len(b), got, want)
		}
	case 2:
		if p.Intn(8) == 0 {
			p.c.Close()
			p.m.closed = true
		}
	case 3, 4:
		p.hold("Flush", p.c.Flush(p.now), p.m.flush(p.now))
	case 5:
		p.now += oneOf[uint64](p.Rand, 0, 1, 3, 6, 12, 24, 48)
		p.hold("Tick", p.c.Tick(p.now), p.m.tick(p.now))
	case 6, 7:
		p.hold("Tick", p.c.Tick(p.now), p.m.tick(p.now))
	case 8, 9:
		if got, want := string(p.c.Read()), p.m.reads(); got != want {
			p.t.Fatalf("Read: %d bytes, not %d, or others", len(got), len(want))
		}
	default:
		s := p.segment()
		was := p.m.phase
		p.hold(fmt.Sprintf("Take of Seq %d, Ack %d, flags %d, %d bytes", s.Seq, s.Ack, s.Flags, len(s.Data)), p.c.Take(s, p.now), p.m.take(s, p.now))
		p.went[fmt.Sprint("from ", was, " to ", p.m.phase)]++
	}
}

// hold holds what is sent, and what the connection tells, against the model's.
func (p *pair) hold(name string, got, want []api.Segment) {
	p.t.Helper()
	wants(p.t, name, got, want...)
	is(p.t, name, p.c, p.m.phase, p.m.ended, p.m.waits())
	for _, s := range got {
		p.went[fmt.Sprint("flags ", s.Flags)]++
		scribble(s.Data)
	}
}

// P14.1 to P14.6: whatever is called, a connection does as the model tells.
func TestP14_1To14_6Model(t *testing.T) {
	went := map[string]int{}
	for seed := range int64(3000) {
		p := newPair(t, rand.New(rand.NewSource(seed)), went)
		for range 150 {
			p.step()
		}
	}
	for _, name := range []string{"flags 2", "flags 18", "flags 24", "flags 17", "flags 16", "flags 20",
		"from 0 to 2", "from 0 to 4", "from 1 to 1", "from 1 to 2", "from 1 to 4", "from 2 to 3", "from 2 to 4", "from 3 to 3"} {
		if went[name] < 50 {
			t.Errorf("only %d times %s", went[name], name)
		}
	}
}
