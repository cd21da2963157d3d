package stream_test

import (
	"bytes"
	"fmt"
	"math/rand"
	"strings"
	"testing"

	"hearth/api"
	"hearth/stream"
)

// side is a connection with what is handed in there, and what was read there.
type side struct {
	c     *stream.Conn
	tells []byte // all that is to be handed in
	told  int
	got   []byte
}

// link is two sides, and what is under way to each of them.
type link struct {
	*rand.Rand
	t     *testing.T
	now   uint64
	sides [2]side
	to    [2][]api.Segment
	bad   int // of ten segments so many are lost, doubled or held up
}

func newLink(t *testing.T, r *rand.Rand, sizes ...int) *link {
	l := &link{Rand: r, t: t, bad: r.Intn(11)}
	for i := range l.sides {
		l.sides[i].tells = bytesOf(r, sizes[i])
	}
	c, out := stream.Dial(5000, 80, oneOf(r, 0, 1<<32-1, 1<<32-5000, r.Uint32()), 0)
	l.sides[0].c = c
	l.put(1, out)
	return l
}

// put lets segments be under way to a side.
func (l *link) put(to int, out []api.Segment) {
	for _, s := range out {
		n := 1
		if l.Intn(10) < l.bad {
			n = oneOf(l.Rand, 0, 0, 0, 1, 2)
		}
		for range n {
			at := len(l.to[to])
			if l.Intn(10) < l.bad {
				at = l.Intn(at + 1)
			}
			l.to[to] = append(l.to[to][:at:at], append([]api.Segment{s}, l.to[to][at:]...)...)
		}
	}
}

// come lets the first segment under way come to a side, and what that answers be under way.
func (l *link) come(to int) {
	s := l.to[to][0]
	l.to[to] = l.to[to][1:]
	d := &l.sides[to]
	if d.c == nil {
		if s.Flags&(api.SYN|api.ACK) != api.SYN {
			return
		}
		c, out := stream.Accept(s, oneOf(l.Rand, 0, 1<<32-1, 1<<31, l.Uint32()), l.now)
		d.c = c
		l.put(1-to, out)
		return
	}
	l.put(1-to, d.c.Take(s, l.now))
}

// use hands some more in, closes behind all of it, and reads.
func (l *link) use(i int) {
	d := &l.sides[i]
	if d.c == nil {
		return
	}
	more := d.tells[d.told:]
	d.told += d.c.Send(more[:min(len(more), oneOf(l.Rand, 1, 100, 3000, 20000))])
	if d.told == len(d.tells) {
		d.c.Close()
	}
	l.put(1-i, d.c.Flush(l.now))
	if l.bad == 0 || l.Intn(4) != 0 {
		d.got = append(d.got, d.c.Read()...)
	}
	if from := l.sides[1-i].tells; !bytes.HasPrefix(from, d.got) {
		l.t.Fatalf("%d bytes were read that aren't a beginning of what was handed in", len(d.got))
	}
}

// second lets a second go by.
func (l *link) second() {
	l.now++
	for i := range l.sides {
		if d := &l.sides[i]; d.c != nil {
			l.put(1-i, d.c.Tick(l.now))
		}
		l.use(i)
		for n := len(l.to[i]); n > 0 && len(l.to[i]) > 0; n-- {
			l.come(i)
		}
	}
}

// done tells whether both have read all.
func (l *link) done() bool {
	return bytes.Equal(l.sides[0].got, l.sides[1].tells) && bytes.Equal(l.sides[1].got, l.sides[0].tells)
}

// givenUp tells whether one was.
func (l *link) givenUp() bool {
	for _, d := range l.sides {
		if d.c != nil && d.c.Phase() == api.Gone {
			return true
		}
	}
	return false
}

// tells gives how far it is.
func (l *link) tells() string {
	var b strings.Builder
	for _, d := range l.sides {
		phase := api.Phase(-1)
		if d.c != nil {
			phase = d.c.Phase()
		}
		fmt.Fprintf(&b, "phase %d, %d of %d handed in, %d read; ", phase, d.told, len(d.tells), len(d.got))
	}
	return b.String()
}

// P14.7: what is read is a beginning of what was handed in, whatever becomes of the segments; and in the end all of it, once all of them come.
func TestP14_7Line(t *testing.T) {
	done, up := 0, 0
	for seed := range int64(1500) {
		r := rand.New(rand.NewSource(seed))
		l := newLink(t, r, oneOf(r, 0, 1, 3000, 30000), oneOf(r, 0, 1, 500, 9000, 30000))
		for range 100 {
			l.second()
		}
		l.bad = 0
		for i := 0; i < 400 && !l.done(); i++ {
			l.second()
		}
		switch {
		case l.done():
			done++
		case l.givenUp():
			up++
		default:
			t.Fatalf("seed %d: %s", seed, l.tells())
		}
	}
	if done < 1000 || up < 20 {
		t.Errorf("only %d were done, only %d given up", done, up)
	}
}

// Without a loss none is given up, and both are over, whatever the sizes.
func TestP14_7GoodLine(t *testing.T) {
	for seed := range int64(200) {
		r := rand.New(rand.NewSource(seed))
		l := newLink(t, r, r.Intn(60000), r.Intn(60000))
		l.bad = 0
		for i := 0; i < 400 && l.sides[0].c.Phase() != api.Over; i++ {
			l.second()
		}
		for range 5 {
			l.second()
		}
		if !l.done() || l.sides[0].c.Phase() != api.Over || l.sides[1].c.Phase() != api.Over {
			t.Fatalf("seed %d: %s", seed, l.tells())
		}
	}
}
