package flow

import (
	"hearth/api"
	"hearth/octet"
	"hearth/sum"
)

const (
	leastTold = 28
	plainHead = 0x45   // IPv4, without options
	partBits  = 0x1fff // where in its packet a fragment stands
	allOnes   = 0xffff // stands for 0 in a datagram, where 0 says that there is no check sum
)

// The places in the beginning of a packet of which an error tells, counted from 0.
const (
	partAt  = 6
	protoAt = 9
	headAt  = 10 // the head's check sum
	srcAt   = 12
	dstAt   = 16

	fromAt = 20
	toAt   = 22
	udpAt  = 26 // the datagram's check sum
	tcpAt  = 36 // the segment's

	kindAt = 20
	codeAt = 21
	icmpAt = 22 // the message's check sum
	idAt   = 24
)

const (
	addrHalves = 4
	allEnds    = addrHalves + 2
)

// ends are those of a flow as they stand in a packet, two bytes each: the halves of Src and of Dst, From, To.
type ends [allEnds]uint16

func endsOf(f api.Flow) ends {
	return ends{uint16(f.Src >> 16), uint16(f.Src), uint16(f.Dst >> 16), uint16(f.Dst), f.From, f.To}
}

// changes gives each number of ends, and the one that it becomes.
func changes(was, is ends) [allEnds][2]uint16 {
	var out [allEnds][2]uint16
	for i := range out {
		out[i] = [2]uint16{was[i], is[i]}
	}
	return out
}

func half(b []byte, at int) uint16 {
	return uint16(octet.NewEye(b[at : at+2]).Num(2))
}

func addr(b []byte, at int) api.Addr {
	return api.Addr(octet.NewEye(b[at : at+4]).Num(4))
}

// lay puts numbers of two bytes each in their places, from one on.
func lay(b []byte, at int, numbers ...uint16) {
	for i, n := range numbers {
		copy(b[at+2*i:], octet.Num(2, uint64(n)))
	}
}

// mend brings the check sum at a place to what it is behind changes.
func mend(b []byte, at int, changes ...[2]uint16) {
	lay(b, at, sum.Update(half(b, at), changes...))
}

// told gives the flow of the packet of which an error tells, if it tells enough of it.
func told(b []byte) (api.Flow, bool) {
	if len(b) < leastTold || b[0] != plainHead || half(b, partAt)&partBits != 0 {
		return api.Flow{}, false
	}
	f, ok := api.Flow{Proto: b[protoAt], Src: addr(b, srcAt), Dst: addr(b, dstAt)}, false
	switch f.Proto {
	case api.TCP, api.UDP:
		f.From, f.To, ok = half(b, fromAt), half(b, toAt), true
	case api.ICMP:
		f.From, f.To, ok = query(b[kindAt], b[codeAt], half(b, idAt))
	}
	return f, ok
}

// retell lets an error tell of its packet as it was in another flow.
func retell(b []byte, was, is api.Flow) {
	becomes := endsOf(is)
	all := changes(endsOf(was), becomes)
	lay(b, srcAt, becomes[:addrHalves]...)
	mend(b, headAt, all[:addrHalves]...)
	if was.Proto == api.ICMP {
		before, after := queryID(b[kindAt], was), queryID(b[kindAt], is)
		lay(b, idAt, after)
		mend(b, icmpAt, [2]uint16{before, after})
		return
	}
	lay(b, fromAt, becomes[addrHalves:]...)
	if was.Proto == api.UDP {
		mendUDP(b, all)
	} else if len(b) >= tcpAt+2 {
		mend(b, tcpAt, all[:]...)
	}
}

// mendUDP mends a datagram's check sum, if it has one.
func mendUDP(b []byte, all [allEnds][2]uint16) {
	if half(b, udpAt) == 0 {
		return
	}
	mend(b, udpAt, all[:]...)
	if half(b, udpAt) == 0 {
		lay(b, udpAt, allOnes)
	}
}
