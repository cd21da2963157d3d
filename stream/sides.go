package stream

import "hearth/api"

// firstByte is the place behind the SYN's.
const firstByte = 1

// outgoing is what this side sends. Its places don't wrap, as their Seqs do: so they can be held against one another.
type outgoing struct {
	number          uint32 // the SYN's Seq
	una, next, most uint64
	fin             uint64 // where the FIN stands, or would stand: behind the bytes
	bytes           []byte // those that aren't acknowledged
	closed          bool
	window          uint64 // the other's
}

func newOutgoing(number uint32) outgoing {
	return outgoing{number: number, next: firstByte, most: firstByte, fin: firstByte}
}

// seq gives a place's Seq.
func (o *outgoing) seq(place uint64) uint32 { return o.number + uint32(place) }

// put takes as many bytes as there is room for.
func (o *outgoing) put(b []byte) int {
	n := min(len(b), api.MaxUnsent-len(o.bytes))
	o.bytes = append(o.bytes, b[:n]...)
	o.fin += uint64(n)
	return n
}

// piece gives the next bytes that a segment may carry, with their room bounded, for behind them wait others.
func (o *outgoing) piece() []byte {
	edge := min(o.next+api.MaxPiece, o.una+max(o.window, 1), o.fin)
	if o.next >= edge {
		return nil
	}
	from, to := o.next-o.una, edge-o.una
	return o.bytes[from:to:to]
}

// send lets the next places be sent; they may have been sent before.
func (o *outgoing) send(places int) {
	o.next += uint64(places)
	o.most = max(o.most, o.next)
}

// places tells how many more an Ack acknowledges; false: it is old, or of what was never sent.
func (o *outgoing) places(ack uint32) (uint64, bool) {
	k := uint64(ack - o.seq(o.una))
	return k, k <= o.most-o.una
}

// acknowledge goes on by so many places, one at least, and forgets their bytes.
func (o *outgoing) acknowledge(k uint64) {
	first := max(o.una, firstByte)
	o.una += k
	o.next = max(o.next, o.una)
	// Una may be behind the FIN, where no byte stands.
	o.bytes = o.bytes[min(o.una, o.fin)-first:]
}

// finished tells whether the FIN is acknowledged.
func (o *outgoing) finished() bool { return o.una > o.fin }

// incoming is what the other side sends.
type incoming struct {
	number uint32 // the SYN's Seq
	seen   uint32
	bytes  []byte // those that aren't read
	ended  bool
}

// begin takes the other side's SYN.
func (i *incoming) begin(number uint32) { i.number, i.seen = number, firstByte }

// ack gives the Seq that is expected.
func (i *incoming) ack() uint32 { return i.number + i.seen }

// room tells how many bytes more may come.
func (i *incoming) room() int { return api.MaxUnread - len(i.bytes) }

// take takes what is new in a segment, and nothing behind a gap.
func (i *incoming) take(s api.Segment) {
	old := int32(i.ack() - s.Seq)
	if i.ended || old < 0 || int(old) > len(s.Data) {
		return
	}
	fresh := s.Data[old:]
	n := min(len(fresh), i.room())
	i.bytes = append(i.bytes, fresh[:n]...)
	i.seen += uint32(n)
	if has(s, api.FIN) && n == len(fresh) {
		i.seen++
		i.ended = true
	}
}

// read hands the bytes on; what comes later is laid elsewhere.
func (i *incoming) read() []byte {
	b := i.bytes
	i.bytes = nil
	return b[:len(b):len(b)]
}
