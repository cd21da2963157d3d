package stream_test

import (
	"bytes"
	"fmt"
	"math"
	"math/rand"
	"slices"
	"testing"

	"hearth/api"
	"hearth/stream"
)

// The signatures that the chapter lists.
var (
	_ func(api.Segment, uint32, uint64) (*stream.Conn, []api.Segment)    = stream.Accept
	_ func(uint16, uint16, uint32, uint64) (*stream.Conn, []api.Segment) = stream.Dial
	_ func(*stream.Conn, api.Segment, uint64) []api.Segment              = (*stream.Conn).Take
	_ func(*stream.Conn, []byte) int                                     = (*stream.Conn).Send
	_ func(*stream.Conn)                                                 = (*stream.Conn).Close
	_ func(*stream.Conn, uint64) []api.Segment                           = (*stream.Conn).Flush
	_ func(*stream.Conn, uint64) []api.Segment                           = (*stream.Conn).Tick
	_ func(*stream.Conn) []byte                                          = (*stream.Conn).Read
	_ func(*stream.Conn) api.Phase                                       = (*stream.Conn).Phase
	_ func(*stream.Conn) bool                                            = (*stream.Conn).Ended
	_ func(*stream.Conn) int                                             = (*stream.Conn).Waits
)

// The connections of these tests: on this side the port 80 and the number 7, on the other one 5000 and 99.
const (
	own   = 7
	other = 99
)

// comes gives a segment of the other side by its places there and here.
func comes(place, acks int, flags byte, window uint16, data string) api.Segment {
	return api.Segment{From: 5000, To: 80, Seq: other + uint32(place), Ack: own + uint32(acks), Flags: flags, Window: window, Data: []byte(data)}
}

// goes gives one that is sent, likewise.
func goes(place, acks int, flags byte, window uint16, data string) api.Segment {
	return api.Segment{From: 80, To: 5000, Seq: own + uint32(place), Ack: other + uint32(acks), Flags: flags, Window: window, Data: []byte(data)}
}

// text gives bytes that differ from place to place; the first of them stands at a place.
func text(place, size int) string {
	b := make([]byte, size)
	for i := range b {
		b[i] = byte((place + i) % 251)
	}
	return string(b)
}

// same holds segments against one another; lists without elements are one with nil ones.
func same(a, b api.Segment) bool {
	data, opts := bytes.Equal(a.Data, b.Data), bytes.Equal(a.Opts, b.Opts)
	a.Data, b.Data, a.Opts, b.Opts = nil, nil, nil, nil
	return data && opts && fmt.Sprint(a) == fmt.Sprint(b)
}

// wants holds what is sent against what should be.
func wants(t *testing.T, name string, got []api.Segment, want ...api.Segment) {
	t.Helper()
	if len(got) != len(want) {
		t.Fatalf("%s: %d segments, not %d: %v, not %v", name, len(got), len(want), got, want)
	}
	for i := range got {
		if !same(got[i], want[i]) {
			t.Fatalf("%s: segment %d is %v, not %v", name, i, got[i], want[i])
		}
	}
}

// is holds a connection against what it should tell.
func is(t *testing.T, name string, c *stream.Conn, phase api.Phase, ended bool, waits int) {
	t.Helper()
	if c.Phase() != phase || c.Ended() != ended || c.Waits() != waits {
		t.Fatalf("%s: phase %d, ended %t, waits %d, not %d, %t, %d", name, c.Phase(), c.Ended(), c.Waits(), phase, ended, waits)
	}
}

func reads(t *testing.T, name string, c *stream.Conn, want string) {
	t.Helper()
	if got := string(c.Read()); got != want {
		t.Fatalf("%s: read %d bytes, %.20q, not %d, %.20q", name, len(got), got, len(want), want)
	}
}

func sends(t *testing.T, c *stream.Conn, b string, want int) {
	t.Helper()
	if got := c.Send([]byte(b)); got != want {
		t.Fatalf("Send of %d bytes: %d, not %d", len(b), got, want)
	}
}

func accepted(window uint16) *stream.Conn {
	c, _ := stream.Accept(comes(0, 0, api.SYN, window, ""), own, 0)
	return c
}

func dialing() *stream.Conn {
	c, _ := stream.Dial(80, 5000, own, 0)
	return c
}

// open gives a connection that is open, whose timer is off.
func open(t *testing.T, window uint16) *stream.Conn {
	t.Helper()
	c := accepted(window)
	wants(t, "opens", c.Take(comes(1, 1, api.ACK, window, ""), 0))
	is(t, "opens", c, api.Open, false, 0)
	return c
}

// silent wants a connection's timer to be off.
func silent(t *testing.T, name string, c *stream.Conn) {
	t.Helper()
	wants(t, name, c.Tick(math.MaxUint64-96))
	is(t, name, c, c.Phase(), c.Ended(), c.Waits())
}

// rings wants a timer to tell just the second at.
func rings(t *testing.T, name string, c *stream.Conn, at uint64, want ...api.Segment) {
	t.Helper()
	wants(t, fmt.Sprint(name, ", ahead of ", at), c.Tick(at-1))
	wants(t, fmt.Sprint(name, ", at ", at), c.Tick(at), want...)
}

func TestP14_1Accept(t *testing.T) {
	for _, more := range []api.Segment{
		{Flags: api.SYN},
		{Flags: api.SYN | api.FIN | api.PSH, Data: []byte("early")},
		{Flags: api.SYN, Ack: 55, Urgent: 3, Opts: []byte{1, 1, 1, 1}},
	} {
		s := more
		s.From, s.To, s.Seq, s.Window = 5000, 80, other, 1500
		c, out := stream.Accept(s, own, 10)
		wants(t, "Accept", out, goes(0, 1, api.SYN|api.ACK, 4096, ""))
		is(t, "Accept", c, api.Accepted, false, 0)
		reads(t, "Accept", c, "")
		rings(t, "Accept", c, 13, goes(0, 1, api.SYN|api.ACK, 4096, ""))
	}
}

func TestP14_1AcceptWraps(t *testing.T) {
	_, out := stream.Accept(api.Segment{From: 1, To: 65535, Seq: 1<<32 - 1, Flags: api.SYN}, 1<<32-1, 0)
	wants(t, "Accept", out, api.Segment{From: 65535, To: 1, Seq: 1<<32 - 1, Ack: 0, Flags: api.SYN | api.ACK, Window: 4096})
}

// Nothing is sent but the SYN till that is acknowledged; the window is the one that is told with that.
func TestP14_1AcceptWaits(t *testing.T) {
	c := accepted(300)
	sends(t, c, text(1, 2000), 2000)
	// An Ack of what was never sent tells no window; it is Accepted still.
	wants(t, "Ack of 2", c.Take(comes(1, 2, api.ACK, 2000, ""), 0))
	wants(t, "Flush of an Accepted one", c.Flush(0))
	wants(t, "Ack of 1", c.Take(comes(1, 1, api.ACK, 400, ""), 0), goes(1, 1, api.PSH|api.ACK, 4096, text(1, 400)))
}

func TestP14_1Dial(t *testing.T) {
	c, out := stream.Dial(80, 5000, own, 10)
	wants(t, "Dial", out, api.Segment{From: 80, To: 5000, Seq: own, Flags: api.SYN, Window: 4096})
	is(t, "Dial", c, api.Dialing, false, 0)
	reads(t, "Dial", c, "")
	rings(t, "Dial", c, 13, api.Segment{From: 80, To: 5000, Seq: own, Flags: api.SYN, Window: 4096})
}

func TestP14_2Dialing(t *testing.T) {
	for _, x := range []struct {
		s     api.Segment
		phase api.Phase
	}{
		{comes(0, 1, api.RST, 9, ""), api.Dialing},
		{comes(0, 1, api.RST|api.ACK, 9, ""), api.Gone},
		{comes(50, 1, api.RST|api.ACK, 9, ""), api.Gone},
		{comes(0, 1, api.RST|api.ACK|api.SYN, 9, ""), api.Gone},
		{comes(0, 0, api.RST|api.ACK, 9, ""), api.Dialing},
		{comes(0, 2, api.RST|api.ACK|api.SYN, 9, ""), api.Dialing},
		{comes(0, 1, api.RST|api.SYN, 9, ""), api.Dialing},
		{comes(0, 1, api.SYN, 9, ""), api.Dialing},
		{comes(0, 1, api.ACK, 9, "data"), api.Dialing},
		{comes(0, 0, api.SYN|api.ACK, 9, ""), api.Dialing},
		{comes(0, 2, api.SYN|api.ACK, 9, ""), api.Dialing},
		{comes(0, 1, api.FIN|api.ACK|api.PSH, 9, ""), api.Dialing},
		{comes(0, 1, 0, 9, ""), api.Dialing},
	} {
		name := fmt.Sprint("Dialing, ", x.s)
		c := dialing()
		wants(t, name, c.Take(x.s, 1))
		is(t, name, c, x.phase, false, 0)
		if x.phase == api.Dialing {
			rings(t, name, c, 3, api.Segment{From: 80, To: 5000, Seq: own, Flags: api.SYN, Window: 4096})
		}
	}
}

// What is answered to Dial: its Data and FIN play no part.
func TestP14_2DialingOpens(t *testing.T) {
	for _, flags := range []byte{api.SYN | api.ACK, api.SYN | api.ACK | api.FIN | api.PSH, 255 &^ api.RST} {
		c := dialing()
		wants(t, "SYN and ACK", c.Take(comes(0, 1, flags, 9, "early"), 1), goes(1, 1, api.ACK, 4096, ""))
		is(t, "SYN and ACK", c, api.Open, false, 0)
		reads(t, "SYN and ACK", c, "")
		silent(t, "SYN and ACK", c)
		wants(t, "data", c.Take(comes(1, 1, api.ACK, 9, "abc"), 1), goes(1, 4, api.ACK, 4093, ""))
		reads(t, "data", c, "abc")
	}
}

// What waits is sent as it opens, and the timer begins anew.
func TestP14_2DialingFlushes(t *testing.T) {
	c := dialing()
	c.Tick(3)
	c.Tick(9)
	sends(t, c, text(1, 50), 50)
	wants(t, "SYN and ACK", c.Take(comes(0, 1, api.SYN|api.ACK, 30, ""), 10), goes(1, 1, api.PSH|api.ACK, 4096, text(1, 30)))
	rings(t, "opened", c, 13, goes(1, 1, api.PSH|api.ACK, 4096, text(1, 30)))
	c = dialing()
	c.Close()
	wants(t, "SYN and ACK", c.Take(comes(0, 1, api.SYN|api.ACK, 0, ""), 1), goes(1, 1, api.FIN|api.ACK, 4096, ""))
}

func TestP14_2RST(t *testing.T) {
	for _, begin := range []func() *stream.Conn{
		func() *stream.Conn { return accepted(1000) },
		func() *stream.Conn { return open(t, 1000) },
	} {
		for _, flags := range []byte{api.RST, api.RST | api.ACK, api.RST | api.SYN, 255} {
			for _, place := range []int{-1, 0, 2, 1} {
				c := begin()
				was, want := c.Phase(), c.Phase()
				if place == 1 {
					want = api.Gone
				}
				name := fmt.Sprint("RST at ", place, " with ", flags, " in ", was)
				wants(t, name, c.Take(comes(place, 1, flags, 9, "data"), 1))
				is(t, name, c, want, false, 0)
				reads(t, name, c, "")
			}
		}
	}
}

// The place of RST is the one that is expected, wherever that is by now.
func TestP14_2RSTLater(t *testing.T) {
	c := open(t, 1000)
	c.Take(comes(1, 1, api.ACK|api.FIN, 1000, "abc"), 1)
	for _, place := range []int{1, 4} {
		wants(t, "RST", c.Take(comes(place, 1, api.RST, 1000, ""), 1))
		is(t, "RST", c, api.Open, true, 0)
	}
	wants(t, "RST", c.Take(comes(5, 1, api.RST, 1000, ""), 1))
	is(t, "RST", c, api.Gone, true, 0)
	reads(t, "RST", c, "abc")
}

func TestP14_2SYNAccepted(t *testing.T) {
	for _, flags := range []byte{api.SYN, api.SYN | api.ACK, 255 &^ api.RST} {
		c := accepted(1000)
		wants(t, "SYN", c.Take(comes(0, 1, flags, 9, "data"), 2), goes(0, 1, api.SYN|api.ACK, 4096, ""))
		for _, place := range []int{-1, 1, 2} {
			wants(t, "SYN", c.Take(comes(place, 1, flags, 9, "data"), 2))
		}
		is(t, "SYN", c, api.Accepted, false, 0)
		reads(t, "SYN", c, "")
		rings(t, "SYN", c, 3, goes(0, 1, api.SYN|api.ACK, 4096, ""))
	}
}

func TestP14_2SYNOpen(t *testing.T) {
	for _, flags := range []byte{api.SYN, api.SYN | api.ACK, 255 &^ api.RST} {
		for _, place := range []int{0, 1, 77} {
			c := open(t, 1000)
			c.Send([]byte("wait"))
			wants(t, "SYN", c.Take(comes(place, 1, flags, 9, "data"), 2), goes(1, 1, api.ACK, 4096, ""))
			is(t, "SYN", c, api.Open, false, 4)
			reads(t, "SYN", c, "")
			silent(t, "SYN", c)
		}
	}
}

// The ACK of a SYN that comes late is told at the place that is to be sent next.
func TestP14_2SYNOpenPlace(t *testing.T) {
	c := open(t, 1)
	c.Send([]byte("four"))
	wants(t, "SYN", c.Take(comes(0, 0, api.SYN, 9, ""), 0), goes(1, 1, api.ACK, 4096, ""))
	c.Take(comes(1, 1, api.ACK, 1000, ""), 0)
	c.Close()
	c.Flush(0)
	wants(t, "SYN", c.Take(comes(0, 0, api.SYN, 9, ""), 2), goes(6, 1, api.ACK, 4096, ""))
	// Behind a Tick that is the place behind what was sent anew, not the one behind all that ever was.
	c.Take(comes(1, 1, api.ACK, 2, ""), 2)
	c.Tick(3)
	wants(t, "SYN", c.Take(comes(0, 0, api.SYN, 9, ""), 3), goes(3, 1, api.ACK, 4096, ""))
}

func TestP14_2NoACK(t *testing.T) {
	for _, begin := range []func() *stream.Conn{
		func() *stream.Conn { return accepted(1000) },
		func() *stream.Conn { return open(t, 1000) },
	} {
		for _, flags := range []byte{0, api.PSH, api.FIN, 255 &^ (api.RST | api.SYN | api.ACK)} {
			c := begin()
			was := c.Phase()
			c.Send([]byte("wait"))
			wants(t, "no ACK", c.Take(comes(1, 1, flags, 2, "data"), 1))
			is(t, "no ACK", c, was, false, 4)
			reads(t, "no ACK", c, "")
		}
	}
}

func TestP14_2AcceptedACK(t *testing.T) {
	for _, x := range []struct {
		acks int
		want api.Phase
	}{{-1, api.Accepted}, {0, api.Accepted}, {1, api.Open}, {2, api.Accepted}, {1 << 31, api.Accepted}} {
		c := accepted(1000)
		out := c.Take(comes(1, x.acks, api.ACK, 500, "hello"), 1)
		is(t, "ACK", c, x.want, false, 0)
		if x.want == api.Accepted {
			wants(t, "ACK", out)
			reads(t, "ACK", c, "")
			rings(t, "ACK", c, 3, goes(0, 1, api.SYN|api.ACK, 4096, ""))
			continue
		}
		wants(t, "ACK", out, goes(1, 6, api.ACK, 4091, ""))
		reads(t, "ACK", c, "hello")
		silent(t, "ACK", c)
	}
}

// An ACK of no place more tells the window, though it be Accepted still.
func TestP14_2AcceptedWindow(t *testing.T) {
	c := accepted(1000)
	wants(t, "ACK of 0", c.Take(comes(1, 0, api.ACK, 2, "x"), 1))
	wants(t, "SYN", c.Take(comes(0, 1, api.SYN, 900, ""), 1), goes(0, 1, api.SYN|api.ACK, 4096, ""))
	sends(t, c, "hello", 5)
	wants(t, "ACK of 2", c.Take(comes(1, 2, api.ACK, 3, ""), 1))
	is(t, "ACK of 2", c, api.Accepted, false, 5)
	wants(t, "ACK of 1", c.Take(comes(1, 1, api.ACK, 1, ""), 1), goes(1, 1, api.PSH|api.ACK, 4096, "h"))
}

// Una goes on by what is acknowledged, which gives room, lets the window move and the timer begin anew.
func TestP14_2Acknowledged(t *testing.T) {
	c := open(t, 1500)
	sends(t, c, text(1, 4000), 4000)
	wants(t, "Flush", c.Flush(2), goes(1, 1, api.PSH|api.ACK, 4096, text(1, 1000)), goes(1001, 1, api.PSH|api.ACK, 4096, text(1001, 500)))
	wants(t, "part", c.Take(comes(1, 701, api.ACK, 1500, ""), 4), goes(1501, 1, api.PSH|api.ACK, 4096, text(1501, 700)))
	is(t, "part", c, api.Open, false, 3300)
	rings(t, "part", c, 7, goes(701, 1, api.PSH|api.ACK, 4096, text(701, 1000)))
	// next has gone back to 1701: of what was sent behind that, 2200 is acknowledged, it goes on there.
	wants(t, "all sent", c.Take(comes(1, 2201, api.ACK, 900, ""), 8), goes(2201, 1, api.PSH|api.ACK, 4096, text(2201, 900)))
	is(t, "all sent", c, api.Open, false, 1800)
	wants(t, "nothing is sent", c.Take(comes(1, 3101, api.ACK, 0, ""), 9), goes(3101, 1, api.PSH|api.ACK, 4096, text(3101, 1)))
	is(t, "nothing is sent", c, api.Open, false, 900)
}

// Behind a Tick next is no more than Una and a segment: what was sent is sent again from there.
func TestP14_2SentAgain(t *testing.T) {
	c := open(t, 3000)
	sends(t, c, text(1, 2500), 2500)
	c.Flush(0)
	wants(t, "Tick", c.Tick(3), goes(1, 1, api.PSH|api.ACK, 4096, text(1, 1000)))
	wants(t, "ACK of 500", c.Take(comes(1, 501, api.ACK, 3000, ""), 4),
		goes(1001, 1, api.PSH|api.ACK, 4096, text(1001, 1000)), goes(2001, 1, api.PSH|api.ACK, 4096, text(2001, 500)))
	// All that was ever sent may be acknowledged, though next had gone back.
	wants(t, "Tick", c.Tick(7), goes(501, 1, api.PSH|api.ACK, 4096, text(501, 1000)))
	wants(t, "ACK of all", c.Take(comes(1, 2501, api.ACK, 3000, ""), 8))
	is(t, "ACK of all", c, api.Open, false, 0)
	silent(t, "ACK of all", c)
	sends(t, c, "more", 4)
	wants(t, "Flush", c.Flush(9), goes(2501, 1, api.PSH|api.ACK, 4096, "more"))
	rings(t, "Flush", c, 12, goes(2501, 1, api.PSH|api.ACK, 4096, "more"))
}

// An Ack that is old, or of what was never sent, changes neither Una nor the window; the data beside it are taken.
func TestP14_2AckOutside(t *testing.T) {
	for _, acks := range []int{100, -1, 502, 1 << 31, 10000} {
		c := open(t, 500)
		sends(t, c, text(1, 900), 900)
		c.Flush(0)
		c.Take(comes(1, 101, api.ACK, 400, ""), 1)
		name := fmt.Sprint("Ack of ", acks)
		wants(t, name, c.Take(comes(1, acks, api.ACK, 9000, "ab"), 2), goes(501, 3, api.ACK, 4094, ""))
		is(t, name, c, api.Open, false, 800)
		reads(t, name, c, "ab")
		rings(t, name, c, 4, goes(101, 3, api.PSH|api.ACK, 4096, text(101, 400)))
	}
}

// An Ack of no place more tells the window alone: the timer stays.
func TestP14_2AckSame(t *testing.T) {
	c := open(t, 500)
	sends(t, c, text(1, 900), 900)
	c.Flush(0)
	c.Tick(3)
	wants(t, "Ack of 0", c.Take(comes(1, 1, api.ACK, 600, ""), 4), goes(501, 1, api.PSH|api.ACK, 4096, text(501, 100)))
	is(t, "Ack of 0", c, api.Open, false, 900)
	rings(t, "Ack of 0", c, 9, goes(1, 1, api.PSH|api.ACK, 4096, text(1, 600)))
	rings(t, "the third time", c, 21, goes(1, 1, api.PSH|api.ACK, 4096, text(1, 600)))
	// With a place more it begins anew: 3, not 24.
	wants(t, "Ack of 1", c.Take(comes(1, 2, api.ACK, 600, ""), 30), goes(601, 1, api.PSH|api.ACK, 4096, text(601, 1)))
	rings(t, "Ack of 1", c, 33, goes(2, 1, api.PSH|api.ACK, 4096, text(2, 600)))
}

func TestP14_2AckWraps(t *testing.T) {
	c, _ := stream.Accept(api.Segment{From: 5000, To: 80, Seq: 1<<32 - 3, Flags: api.SYN, Window: 9}, 1<<32-3, 0)
	c.Send([]byte("hello"))
	out := c.Take(api.Segment{Seq: 1<<32 - 2, Ack: 1<<32 - 2, Flags: api.ACK, Window: 9, Data: []byte("abcd")}, 1)
	wants(t, "opens", out, api.Segment{From: 80, To: 5000, Seq: 1<<32 - 2, Ack: 2, Flags: api.PSH | api.ACK, Window: 4092, Data: []byte("hello")})
	out = c.Take(api.Segment{Seq: 1<<32 - 1, Ack: 1, Flags: api.ACK | api.FIN, Window: 9, Data: []byte("bcdef")}, 1)
	wants(t, "goes on", out, api.Segment{From: 80, To: 5000, Seq: 3, Ack: 5, Flags: api.ACK, Window: 4090})
	is(t, "goes on", c, api.Open, true, 2)
	reads(t, "goes on", c, "abcdef")
}

// Of data that come anew, in part or whole, what is new is taken, and nothing behind a gap.
func TestP14_2Data(t *testing.T) {
	for _, x := range []struct {
		place int
		flags byte
		data  string
		read  string
		seen  int
		ended bool
	}{
		{4, 0, "defg", "defg", 8, false},
		{3, 0, "cdefg", "defg", 8, false},
		{1, 0, "abcdefg", "defg", 8, false},
		{0, 0, "?abcde", "de", 6, false},
		{1, 0, "abc", "", 4, false},
		{1, 0, "ab", "", 4, false},
		{5, 0, "efg", "", 4, false},
		{4, api.FIN, "", "", 5, true},
		{4, api.FIN, "de", "de", 7, true},
		{2, api.FIN, "bcd", "d", 6, true},
		{1, api.FIN, "abc", "", 5, true},
		{1, api.FIN, "ab", "", 4, false},
		{3, api.FIN, "", "", 4, false},
		{5, api.FIN, "", "", 4, false},
		{1<<31 + 4, api.FIN, "abc", "", 4, false},
		{1<<31 + 3, api.FIN, "abc", "", 4, false},
		{1<<31 + 5, api.FIN, "abc", "", 4, false},
	} {
		c := open(t, 1000)
		wants(t, "abc", c.Take(comes(1, 1, api.ACK, 1000, "abc"), 1), goes(1, 4, api.ACK, 4093, ""))
		reads(t, "abc", c, "abc")
		name := fmt.Sprint(x)
		wants(t, name, c.Take(comes(x.place, 1, x.flags|api.ACK, 1000, x.data), 2), goes(1, x.seen, api.ACK, uint16(4096-len(x.read)), ""))
		is(t, name, c, api.Open, x.ended, 0)
		reads(t, name, c, x.read)
		silent(t, name, c)
	}
}

// Without Data and FIN nothing is answered, whatever its place.
func TestP14_2Bare(t *testing.T) {
	c := open(t, 1000)
	for _, place := range []int{-1, 0, 1, 2, 1 << 31} {
		wants(t, "bare", c.Take(comes(place, 1, api.ACK, 1000, ""), 1))
		wants(t, "PSH", c.Take(comes(place, 1, api.ACK|api.PSH, 1000, ""), 1))
	}
	is(t, "bare", c, api.Open, false, 0)
}

// As many bytes as there is room for are taken; the FIN behind them if all were.
func TestP14_2Room(t *testing.T) {
	for _, x := range []struct {
		size, taken int
		ended       bool
	}{{95, 95, true}, {96, 96, true}, {97, 96, false}, {5000, 96, false}} {
		c := open(t, 1000)
		c.Take(comes(1, 1, api.ACK, 1000, text(1, 4000)), 1)
		seen, window := 4001+x.taken, uint16(96-x.taken)
		if x.ended {
			seen++
		}
		wants(t, "FIN", c.Take(comes(4001, 1, api.FIN|api.ACK, 1000, text(4001, x.size)), 1), goes(1, seen, api.ACK, window, ""))
		is(t, "FIN", c, api.Open, x.ended, 0)
		reads(t, "FIN", c, text(1, 4000+x.taken))
	}
}

// When it is full nothing is taken; a FIN alone needs no room.
func TestP14_2Full(t *testing.T) {
	c := open(t, 1000)
	wants(t, "full", c.Take(comes(1, 1, api.ACK, 1000, text(1, 5000)), 1), goes(1, 4097, api.ACK, 0, ""))
	wants(t, "more", c.Take(comes(4097, 1, api.ACK|api.FIN, 1000, "x"), 1), goes(1, 4097, api.ACK, 0, ""))
	wants(t, "old", c.Take(comes(1, 1, api.ACK|api.FIN, 1000, text(1, 5000)), 1), goes(1, 4097, api.ACK, 0, ""))
	is(t, "full", c, api.Open, false, 0)
	wants(t, "FIN", c.Take(comes(4097, 1, api.ACK|api.FIN, 1000, ""), 1), goes(1, 4098, api.ACK, 0, ""))
	is(t, "FIN", c, api.Open, true, 0)
	reads(t, "FIN", c, text(1, 4096))
	c = open(t, 1000)
	c.Take(comes(1, 1, api.ACK, 1000, text(1, 4096)), 1)
	reads(t, "read", c, text(1, 4096))
	wants(t, "read", c.Take(comes(4097, 1, api.ACK, 1000, "x"), 1), goes(1, 4098, api.ACK, 4095, ""))
	reads(t, "read", c, "x")
}

// When the other side has ended nothing more is taken of it, but it is acknowledged anew.
func TestP14_2BehindTheEnd(t *testing.T) {
	c := open(t, 1000)
	c.Take(comes(1, 1, api.ACK|api.FIN, 1000, "ab"), 1)
	for _, place := range []int{1, 3, 4} {
		wants(t, "data", c.Take(comes(place, 1, api.ACK, 1000, "xyz"), 1), goes(1, 4, api.ACK, 4094, ""))
		wants(t, "FIN", c.Take(comes(place, 1, api.ACK|api.FIN, 1000, ""), 1), goes(1, 4, api.ACK, 4094, ""))
	}
	is(t, "ended", c, api.Open, true, 0)
	reads(t, "ended", c, "ab")
}

// What Flush sends stands in the ACK's stead, and acknowledges what has just come.
func TestP14_2FlushInstead(t *testing.T) {
	c := open(t, 1000)
	sends(t, c, "answer", 6)
	wants(t, "data", c.Take(comes(1, 1, api.ACK, 1000, "ask"), 5), goes(1, 4, api.PSH|api.ACK, 4093, "answer"))
	rings(t, "data", c, 8, goes(1, 4, api.PSH|api.ACK, 4093, "answer"))
	c = open(t, 1000)
	sends(t, c, "answer", 6)
	wants(t, "bare", c.Take(comes(1, 1, api.ACK, 1000, ""), 5), goes(1, 1, api.PSH|api.ACK, 4096, "answer"))
	c = open(t, 1000)
	c.Close()
	wants(t, "FIN", c.Take(comes(1, 1, api.ACK|api.FIN, 1000, ""), 5), goes(1, 2, api.FIN|api.ACK, 4096, ""))
	is(t, "FIN", c, api.Open, true, 0)
}

// Over, when both have ended, in whatever order, with an ACK of the other's FIN, if it is that one's segment.
func TestP14_2Over(t *testing.T) {
	c := open(t, 1000)
	c.Close()
	c.Flush(0)
	wants(t, "FIN is acknowledged", c.Take(comes(1, 2, api.ACK, 1000, ""), 1))
	is(t, "FIN is acknowledged", c, api.Open, false, 0)
	silent(t, "FIN is acknowledged", c)
	wants(t, "the other's data", c.Take(comes(1, 2, api.ACK, 1000, "late"), 1), goes(2, 5, api.ACK, 4092, ""))
	wants(t, "the other's FIN", c.Take(comes(5, 2, api.ACK|api.FIN, 1000, "st"), 2), goes(2, 8, api.ACK, 4090, ""))
	is(t, "the other's FIN", c, api.Over, true, 0)
	reads(t, "the other's FIN", c, "latest")

	c = open(t, 1000)
	wants(t, "the other's FIN", c.Take(comes(1, 1, api.ACK|api.FIN, 1000, ""), 1), goes(1, 2, api.ACK, 4096, ""))
	sends(t, c, "last", 4)
	c.Close()
	wants(t, "Flush", c.Flush(1), goes(1, 2, api.PSH|api.ACK, 4096, "last"), goes(5, 2, api.FIN|api.ACK, 4096, ""))
	wants(t, "ACK of the bytes", c.Take(comes(2, 5, api.ACK, 1000, ""), 2))
	is(t, "ACK of the bytes", c, api.Open, true, 0)
	wants(t, "ACK of the FIN", c.Take(comes(2, 6, api.ACK, 1000, ""), 3))
	is(t, "ACK of the FIN", c, api.Over, true, 0)
}

// Without Close it isn't over, though all that was sent is acknowledged and the other side has ended.
func TestP14_2NotOver(t *testing.T) {
	c := open(t, 1000)
	c.Send([]byte("data"))
	c.Flush(0)
	c.Take(comes(1, 5, api.ACK|api.FIN, 1000, ""), 1)
	is(t, "ended", c, api.Open, true, 0)
	c.Close() // It isn't sent yet.
	wants(t, "again", c.Take(comes(2, 5, api.ACK, 1000, ""), 1), goes(5, 2, api.FIN|api.ACK, 4096, ""))
	is(t, "again", c, api.Open, true, 0)
}

// over gives one that is Over, with bytes that aren't read.
func over(t *testing.T) *stream.Conn {
	t.Helper()
	c := open(t, 1000)
	c.Close()
	c.Flush(0)
	c.Take(comes(1, 2, api.ACK|api.FIN, 1000, "unread"), 0)
	is(t, "over", c, api.Over, true, 0)
	return c
}

// gone gives one that is Gone, with bytes that aren't read and such that aren't acknowledged.
func gone(t *testing.T) *stream.Conn {
	t.Helper()
	c := open(t, 1000)
	c.Take(comes(1, 1, api.ACK, 1000, "unread"), 0)
	c.Send([]byte("wait"))
	c.Flush(0)
	c.Take(comes(7, 1, api.RST, 1000, ""), 0)
	is(t, "gone", c, api.Gone, false, 4)
	return c
}

// Of what is over, or gone, nothing comes any more but what it has received.
func TestP14_2Nothing(t *testing.T) {
	for _, c := range []*stream.Conn{over(t), gone(t)} {
		phase, ended, waits := c.Phase(), c.Ended(), c.Waits()
		for _, flags := range []byte{api.ACK, api.RST, api.RST | api.ACK, api.SYN, api.SYN | api.ACK, api.FIN | api.ACK, 255} {
			for place := range 10 {
				for acks := range 7 {
					wants(t, "Take", c.Take(comes(place, acks, flags, 1000, "data"), 1))
				}
			}
		}
		sends(t, c, "more", 0)
		c.Close()
		wants(t, "Flush", c.Flush(1))
		silent(t, "Tick", c)
		is(t, "at last", c, phase, ended, waits)
		reads(t, "at last", c, "unread")
		reads(t, "at last", c, "")
	}
}

func TestP14_3Send(t *testing.T) {
	c := open(t, 1000)
	sends(t, c, "", 0)
	sends(t, c, text(1, 8000), 8000)
	is(t, "Send", c, api.Open, false, 8000)
	sends(t, c, text(8001, 193), 192)
	sends(t, c, "x", 0)
	is(t, "Send", c, api.Open, false, 8192)
	c.Flush(0)
	is(t, "Flush", c, api.Open, false, 8192)
	c.Take(comes(1, 301, api.ACK, 1000, ""), 0)
	is(t, "acknowledged", c, api.Open, false, 7892)
	sends(t, c, text(8193, 9000), 300)
	is(t, "full", c, api.Open, false, 8192)
}

// What is handed in later stands behind what was there.
func TestP14_3SendBehind(t *testing.T) {
	c := open(t, 65535)
	sends(t, c, text(1, 8192), 8192)
	c.Flush(0)
	c.Take(comes(1, 301, api.ACK, 65535, ""), 0)
	sends(t, c, text(8193, 9000), 300)
	wants(t, "Flush", c.Flush(0), goes(8193, 1, api.PSH|api.ACK, 4096, text(8193, 300)))
	c.Take(comes(1, 8001, api.ACK, 65535, ""), 0)
	sends(t, c, text(8493, 9), 9)
	wants(t, "Tick", c.Tick(3), goes(8001, 1, api.PSH|api.ACK, 4096, text(8001, 501)))
	is(t, "Tick", c, api.Open, false, 501)
}

// What is handed in while it isn't open yet waits.
func TestP14_3SendEarly(t *testing.T) {
	for _, c := range []*stream.Conn{accepted(1000), dialing()} {
		phase := c.Phase()
		sends(t, c, text(1, 8193), 8192)
		is(t, "early", c, phase, false, 8192)
		wants(t, "early", c.Flush(0))
		c.Close()
		sends(t, c, "", 0)
		wants(t, "early", c.Flush(0))
		is(t, "early", c, phase, false, 8192)
	}
}

func TestP14_3Close(t *testing.T) {
	c := open(t, 1000)
	sends(t, c, "ab", 2)
	c.Close()
	sends(t, c, "cd", 0)
	is(t, "Close", c, api.Open, false, 2)
	c.Close()
	wants(t, "Flush", c.Flush(0), goes(1, 1, api.PSH|api.ACK, 4096, "ab"), goes(3, 1, api.FIN|api.ACK, 4096, ""))
	c.Close()
	wants(t, "Flush", c.Flush(0))
	sends(t, c, "cd", 0)
	c.Take(comes(1, 4, api.ACK, 1000, ""), 0)
	sends(t, c, "cd", 0)
	is(t, "Close", c, api.Open, false, 0)
	wants(t, "Flush", c.Flush(0))
	silent(t, "Close", c)
}

func TestP14_4Flush(t *testing.T) {
	piece := func(place, size int) api.Segment {
		return goes(place, 1, api.PSH|api.ACK, 4096, text(place, size))
	}
	for _, x := range []struct {
		window uint16
		size   int
		want   []api.Segment
	}{
		{1000, 0, nil},
		{1000, 1, []api.Segment{piece(1, 1)}},
		{1000, 999, []api.Segment{piece(1, 999)}},
		{1000, 1000, []api.Segment{piece(1, 1000)}},
		{1000, 1001, []api.Segment{piece(1, 1000)}},
		{1001, 1001, []api.Segment{piece(1, 1000), piece(1001, 1)}},
		{999, 1001, []api.Segment{piece(1, 999)}},
		{2000, 9000, []api.Segment{piece(1, 1000), piece(1001, 1000)}},
		{65535, 2500, []api.Segment{piece(1, 1000), piece(1001, 1000), piece(2001, 500)}},
		{0, 0, nil},
		{0, 9, []api.Segment{piece(1, 1)}},
		{1, 9, []api.Segment{piece(1, 1)}},
		{2, 9, []api.Segment{piece(1, 2)}},
	} {
		c := open(t, x.window)
		c.Send([]byte(text(1, x.size)))
		wants(t, fmt.Sprint("Flush of ", x.size, " in ", x.window), c.Flush(5), x.want...)
		wants(t, "Flush again", c.Flush(6))
		if len(x.want) == 0 {
			silent(t, "Flush of nothing", c)
			continue
		}
		rings(t, "Flush", c, 8, x.want[0])
	}
}

func TestP14_4FlushMost(t *testing.T) {
	c := open(t, 65535)
	c.Send([]byte(text(1, 9000)))
	got := c.Flush(0)
	if len(got) != 9 || string(got[8].Data) != text(8001, 192) || got[8].Seq != own+8001 {
		t.Errorf("%d segments", len(got))
	}
}

// The FIN waits for all bytes, and needs no room in the window.
func TestP14_4FIN(t *testing.T) {
	fin := func(place int) api.Segment { return goes(place, 1, api.FIN|api.ACK, 4096, "") }
	c := open(t, 3)
	c.Send([]byte("hello"))
	c.Close()
	wants(t, "Flush", c.Flush(0), goes(1, 1, api.PSH|api.ACK, 4096, "hel"))
	wants(t, "acknowledged", c.Take(comes(1, 4, api.ACK, 2, ""), 0), goes(4, 1, api.PSH|api.ACK, 4096, "lo"), fin(6))
	wants(t, "Flush", c.Flush(0))
	for _, window := range []uint16{0, 1, 1000} {
		c = open(t, window)
		c.Close()
		wants(t, "FIN", c.Flush(5), fin(1))
		wants(t, "FIN", c.Flush(5))
		rings(t, "FIN", c, 8, fin(1))
		wants(t, "FIN", c.Flush(8))
	}
}

// The timer is set by what is sent if it is off; else it stays.
func TestP14_4Timer(t *testing.T) {
	c := open(t, 1000)
	c.Send([]byte("a"))
	c.Flush(10)
	c.Send([]byte("b"))
	wants(t, "Flush", c.Flush(12), goes(2, 1, api.PSH|api.ACK, 4096, "b"))
	rings(t, "Flush", c, 13, goes(1, 1, api.PSH|api.ACK, 4096, "ab"))
	c.Send([]byte("c"))
	c.Flush(14)
	rings(t, "Flush", c, 19, goes(1, 1, api.PSH|api.ACK, 4096, "abc"))
	c.Take(comes(1, 4, api.ACK, 1000, ""), 20)
	silent(t, "acknowledged", c)
	c.Send([]byte("d"))
	wants(t, "Flush", c.Flush(30), goes(4, 1, api.PSH|api.ACK, 4096, "d"))
	rings(t, "Flush", c, 33, goes(4, 1, api.PSH|api.ACK, 4096, "d"))
}

// It waits twice as long with each try; behind the fifth one it is given up.
func TestP14_5Tries(t *testing.T) {
	for _, x := range []struct {
		name       string
		c          *stream.Conn
		sent, gone api.Segment
		phase      api.Phase
		waits      int
	}{
		{"Dialing", dialing(), api.Segment{From: 80, To: 5000, Seq: own, Flags: api.SYN, Window: 4096},
			api.Segment{From: 80, To: 5000, Seq: own + 1, Flags: api.RST | api.ACK, Window: 4096}, api.Dialing, 0},
		{"Accepted", accepted(1000), goes(0, 1, api.SYN|api.ACK, 4096, ""), goes(1, 1, api.RST|api.ACK, 4096, ""), api.Accepted, 0},
		{"Open", flushed(t, text(1, 1500), false), goes(1, 4, api.PSH|api.ACK, 4093, text(1, 1000)), goes(1001, 4, api.RST|api.ACK, 4093, ""), api.Open, 1500},
		{"closed", flushed(t, "", true), goes(1, 4, api.FIN|api.ACK, 4093, ""), goes(2, 4, api.RST|api.ACK, 4093, ""), api.Open, 0},
	} {
		at := uint64(0)
		for _, wait := range []uint64{3, 6, 12, 24, 48} {
			at += wait
			rings(t, x.name, x.c, at, x.sent)
			is(t, x.name, x.c, x.phase, false, x.waits)
		}
		rings(t, x.name, x.c, at+96, x.gone)
		is(t, x.name, x.c, api.Gone, false, x.waits)
		silent(t, x.name, x.c)
	}
}

// flushed gives one that is open, has received three bytes and at the second 0 sent what may be sent, with a window of 3000.
func flushed(t *testing.T, b string, closed bool) *stream.Conn {
	t.Helper()
	c := open(t, 3000)
	c.Take(comes(1, 1, api.ACK, 3000, "abc"), 0)
	c.Send([]byte(b))
	if closed {
		c.Close()
	}
	c.Flush(0)
	return c
}

// A Tick that comes late sets the timer from then on, and counts once.
func TestP14_5Late(t *testing.T) {
	c := accepted(1000)
	wants(t, "late", c.Tick(1000), goes(0, 1, api.SYN|api.ACK, 4096, ""))
	rings(t, "late", c, 1006, goes(0, 1, api.SYN|api.ACK, 4096, ""))
	rings(t, "late", c, 1018, goes(0, 1, api.SYN|api.ACK, 4096, ""))
}

// The first segment alone is sent anew; behind it bytes, and the FIN, are sent when Flush may.
func TestP14_5Open(t *testing.T) {
	c := flushed(t, text(1, 1500), true)
	first := goes(1, 4, api.PSH|api.ACK, 4093, text(1, 1000))
	behind := []api.Segment{goes(1001, 4, api.PSH|api.ACK, 4093, text(1001, 500)), goes(1501, 4, api.FIN|api.ACK, 4093, "")}
	rings(t, "Tick", c, 3, first)
	wants(t, "Flush", c.Flush(4), behind...)
	wants(t, "Flush", c.Flush(4))
	rings(t, "Tick", c, 9, first)
	wants(t, "data", c.Take(comes(4, 1001, api.ACK, 3000, ""), 10), behind...)
	rings(t, "Tick", c, 13, behind[0])
	wants(t, "acknowledged", c.Take(comes(4, 1501, api.ACK, 3000, ""), 14), behind[1])
	rings(t, "Tick", c, 17, behind[1])
	wants(t, "acknowledged", c.Take(comes(4, 1502, api.ACK, 3000, ""), 18))
	silent(t, "acknowledged", c)
}

// What is sent anew goes by the window that holds by now, and may carry bytes that were never sent.
func TestP14_5OpenWindow(t *testing.T) {
	c := open(t, 500)
	sends(t, c, text(1, 500), 500)
	c.Flush(0)
	c.Take(comes(1, 1, api.ACK, 200, ""), 1)
	rings(t, "smaller", c, 3, goes(1, 1, api.PSH|api.ACK, 4096, text(1, 200)))
	c.Take(comes(1, 1, api.ACK, 0, ""), 4)
	rings(t, "none", c, 9, goes(1, 1, api.PSH|api.ACK, 4096, text(1, 1)))
	wants(t, "greater", c.Take(comes(1, 1, api.ACK, 700, ""), 10), goes(2, 1, api.PSH|api.ACK, 4096, text(2, 499)))
	sends(t, c, text(501, 500), 500)
	rings(t, "greater", c, 21, goes(1, 1, api.PSH|api.ACK, 4096, text(1, 700)))
	wants(t, "acknowledged", c.Take(comes(1, 701, api.ACK, 700, ""), 22), goes(701, 1, api.PSH|api.ACK, 4096, text(701, 300)))
	is(t, "acknowledged", c, api.Open, false, 300)
}

func TestP14_6Read(t *testing.T) {
	c := open(t, 1000)
	reads(t, "nothing", c, "")
	c.Take(comes(1, 1, api.ACK, 1000, "ab"), 0)
	c.Take(comes(3, 1, api.ACK, 1000, "cd"), 0)
	c.Take(comes(5, 1, api.ACK|api.FIN, 1000, "ef"), 0)
	reads(t, "all", c, "abcdef")
	reads(t, "once", c, "")
	is(t, "ended", c, api.Open, true, 0)
}

// What is read gives room, which is told with the next segment, whichever that is.
func TestP14_6Window(t *testing.T) {
	c := open(t, 1000)
	c.Take(comes(1, 1, api.ACK, 1000, text(1, 4000)), 0)
	c.Send([]byte("x"))
	wants(t, "Flush", c.Flush(0), goes(1, 4001, api.PSH|api.ACK, 96, "x"))
	reads(t, "read", c, text(1, 4000))
	wants(t, "Tick", c.Tick(3), goes(1, 4001, api.PSH|api.ACK, 4096, "x"))
	c.Take(comes(4001, 1, api.ACK, 1000, "abcd"), 4)
	wants(t, "SYN", c.Take(comes(0, 0, api.SYN, 1000, ""), 4), goes(2, 4005, api.ACK, 4092, ""))
	c.Close()
	wants(t, "FIN", c.Flush(4), goes(2, 4005, api.FIN|api.ACK, 4092, ""))
}

// scribble writes over a list, and all of its spare room.
func scribble(b []byte) {
	b = b[:cap(b)]
	for i := range b {
		b[i] ^= 0xff
	}
}

func TestP14_7NothingIsKept(t *testing.T) {
	c := accepted(1000)
	b := []byte("hello")
	c.Send(b)
	scribble(b)
	s := comes(1, 1, api.ACK, 1000, "abc")
	wants(t, "Take", c.Take(s, 0), goes(1, 4, api.PSH|api.ACK, 4093, "hello"))
	scribble(s.Data)
	s = comes(4, 1, api.ACK, 1000, "def")
	c.Take(s, 0)
	scribble(s.Data)
	reads(t, "Take", c, "abcdef")
	wants(t, "Tick", c.Tick(3), goes(1, 7, api.PSH|api.ACK, 4096, "hello"))
}

func TestP14_7NothingIsChanged(t *testing.T) {
	room := []byte("helloSPARE")
	c := open(t, 1000)
	c.Send(room[:5])
	c.Send(room[:5])
	data := []byte("abcdefSPARE")
	s := comes(1, 1, api.ACK, 1000, "")
	s.Data = data[:3]
	c.Take(s, 0)
	s.Seq, s.Data = s.Seq+3, data[3:6]
	c.Take(s, 0)
	scribble(c.Read())
	for _, s := range c.Tick(3) {
		scribble(s.Data)
	}
	if string(room) != "helloSPARE" || string(data) != "abcdefSPARE" {
		t.Errorf("%s, %s", room, data)
	}
}

// What is answered may be written over, with its spare room: neither the connection nor another answer changes.
func TestP14_7AnswersAreNew(t *testing.T) {
	c := open(t, 3000)
	c.Send([]byte(text(1, 2500)))
	first := c.Flush(0)
	for i, s := range first {
		scribble(s.Data)
		for _, x := range first[i+1:] {
			if string(x.Data) != text(int(x.Seq-own), len(x.Data)) {
				t.Fatalf("the segment at %d is changed", x.Seq-own)
			}
		}
	}
	again := c.Tick(3)
	wants(t, "Tick", again, goes(1, 1, api.PSH|api.ACK, 4096, text(1, 1000)))
	scribble(again[0].Data)
	wants(t, "Tick", c.Tick(9), goes(1, 1, api.PSH|api.ACK, 4096, text(1, 1000)))

	c.Take(comes(1, 2501, api.ACK, 3000, "abc"), 10)
	got := c.Read()
	c.Take(comes(4, 2501, api.ACK, 3000, "def"), 10)
	if string(got) != "abc" {
		t.Errorf("what was read became %q", got)
	}
	scribble(got)
	_ = append(got, "xyz"...)
	reads(t, "another", c, "def")
}

// Each connection is by itself.
func TestP14_7Apart(t *testing.T) {
	a, b := open(t, 1000), open(t, 1000)
	a.Send([]byte("a"))
	a.Take(comes(1, 1, api.ACK, 1000, "x"), 0)
	b.Send([]byte("b"))
	b.Close()
	wants(t, "b", b.Flush(0), goes(1, 1, api.PSH|api.ACK, 4096, "b"), goes(2, 1, api.FIN|api.ACK, 4096, ""))
	a.Take(comes(2, 1, api.RST, 1000, ""), 0)
	is(t, "a", a, api.Gone, false, 1)
	is(t, "b", b, api.Open, false, 1)
	reads(t, "b", b, "")
	reads(t, "a", a, "x")
}

// The seconds may be as great as the chapter allows.
func TestP14_7Seconds(t *testing.T) {
	at := uint64(math.MaxUint64 - 96)
	c, out := stream.Dial(80, 5000, own, at)
	rings(t, "at last", c, at+3, out[0])
	at -= 94
	c, _ = stream.Dial(80, 5000, own, at)
	for _, wait := range []uint64{3, 6, 12, 24, 48} {
		at += wait
		rings(t, "at last", c, at, out[0])
	}
	wants(t, "at last", c.Tick(at+1))
	is(t, "at last", c, api.Dialing, false, 0)
}

// P1: great things that are handed in are met, too.
func TestP1Great(t *testing.T) {
	big := bytes.Repeat([]byte("x"), 1<<22)
	c := open(t, 65535)
	if n := c.Send(big); n != 8192 {
		t.Errorf("Send: %d", n)
	}
	s := comes(1, 1, api.ACK|api.FIN, 65535, "")
	s.Data = big
	if out := c.Take(s, math.MaxUint64); len(out) != 9 || c.Ended() || len(c.Read()) != 4096 {
		t.Errorf("Take: %d", len(out))
	}
	if !slices.Equal(big, bytes.Repeat([]byte("x"), 1<<22)) {
		t.Error("changed")
	}
}

// wildSegment gives any segment.
func wildSegment(r *rand.Rand) api.Segment {
	return api.Segment{From: uint16(r.Uint32()), To: uint16(r.Uint32()), Seq: oneOf(r, 0, 1, 1<<31, 1<<32-1, r.Uint32()), Ack: oneOf(r, 0, 1, 2, 8, r.Uint32()),
		Flags: oneOf(r, api.SYN, api.SYN|api.ACK, api.ACK, byte(r.Uint32())), Window: uint16(r.Uint32()), Urgent: uint16(r.Uint32()),
		Opts: bytesOf(r, r.Intn(9)), Data: bytesOf(r, oneOf(r, 0, 1, 100, 5000))}
}

// wildRun calls all that there is with whatever is drawn, and tells what is answered.
func wildRun(seed int64) string {
	r := rand.New(rand.NewSource(seed))
	c, out := stream.Dial(uint16(r.Uint32()), uint16(r.Uint32()), oneOf(r, 0, r.Uint32()), r.Uint64())
	if r.Intn(2) == 0 {
		c, out = stream.Accept(wildSegment(r), oneOf(r, 0, r.Uint32()), r.Uint64())
	}
	told := fmt.Sprint(out)
	for range 60 {
		switch r.Intn(9) {
		case 0:
			told += fmt.Sprint(c.Send(bytesOf(r, r.Intn(9999))))
		case 1:
			told += fmt.Sprint(c.Flush(r.Uint64()))
		case 2:
			told += fmt.Sprint(c.Tick(oneOf(r, 0, math.MaxUint64, r.Uint64())))
		case 3:
			told += fmt.Sprint(c.Read())
		case 4:
			if r.Intn(5) == 0 {
				c.Close()
			}
		default:
			told += fmt.Sprint(c.Take(wildSegment(r), r.Uint64()))
		}
		told += fmt.Sprint(c.Phase(), c.Ended(), c.Waits())
	}
	return told
}

// P1, P2: calls with whatever arguments end, and the same ones give the same answers.
func TestP1P2Runs(t *testing.T) {
	for seed := range int64(300) {
		if wildRun(seed) != wildRun(seed) {
			t.Fatalf("seed %d: two runs differ", seed)
		}
	}
}
