package gena

import (
	"math"
	"slices"
	"strconv"
	"strings"

	"hearth/api"
	"hearth/head"
)

// subscription is one of a host, with what its notes have alike: their Body isn't kept.
type subscription struct {
	api.Note
	ends  uint64
	told  bool      // just now
	again uint64    // from when on it may be told again
	last  []api.Arg // the variables that it was told last
}

// later gives the second that is so many seconds behind now.
func later(now, seconds uint64) uint64 { return now + min(seconds, math.MaxUint64-now) }

// sidOf gives the SID of two numbers that were drawn.
func sidOf(draw [2]uint64) string {
	s := digits(draw[0]) + digits(draw[1])
	return "uuid:" + strings.Join([]string{s[:8], s[8:12], s[12:16], s[16:20], s[20:]}, "-")
}

// digits gives all 16 digits of base 16 that a number has.
func digits(n uint64) string {
	s := strconv.FormatUint(n, 16)
	return strings.Repeat("0", 16-len(s)) + s
}

// tell gives the note that tells a subscriber of the variables.
func (x *subscription) tell(vars []api.Arg) api.Note {
	n := x.Note
	n.Body = Body(slices.DeleteFunc(slices.Clone(vars), setOf(x.last).has))
	x.told, x.last = true, copyOf(vars)
	return n
}

// copyOf gives variables whose texts are no pieces of longer ones either.
func copyOf(vars []api.Arg) []api.Arg {
	var out []api.Arg
	for _, a := range vars {
		out = append(out, api.Arg{Name: strings.Clone(a.Name), Value: strings.Clone(a.Value)})
	}
	return out
}

// set is variables with their values, in no order.
type set map[api.Arg]struct{}

func setOf(vars []api.Arg) set {
	s := set{}
	for _, a := range vars {
		s[a] = struct{}{}
	}
	return s
}

// has tells whether a variable is among them with just this value.
func (s set) has(a api.Arg) bool {
	_, ok := s[a]
	return ok
}

// find gives the subscription of a SID, nil if there is none.
func (s *Subs) find(sid string) *subscription {
	for _, x := range s.list {
		if x.SID == sid {
			return x
		}
	}
	return nil
}

// meant gives the subscription that a host's request names, and 200; or the status with which there is none.
func (s *Subs) meant(r api.Request, who api.Addr) (*subscription, int) {
	sids := head.Get(r.Fields, "sid")
	if len(sids) != 1 || has(r, "nt") || has(r, "callback") {
		return nil, 400
	}
	x := s.find(sids[0])
	if x == nil || x.Host != who {
		return nil, 412
	}
	return x, 200
}

// begin gives a subscription that a host's request asks for, and 200; or the status with which there is none.
func (s *Subs) begin(r api.Request, who api.Addr, now uint64, draw [2]uint64) (*subscription, int) {
	host, port, target, ok := subscriber(r)
	if !ok || host != who {
		return nil, 412
	}
	sid := sidOf(draw)
	if s.Len() >= s.most || s.find(sid) != nil {
		return nil, 503
	}
	x := &subscription{Note: api.Note{SID: sid, Host: host, Port: port, Target: target}, again: now}
	s.list = append(s.list, x)
	return x, 200
}

// drop lets one be gone.
func (s *Subs) drop(gone *subscription) {
	s.leave(func(x *subscription) bool { return x == gone })
}

// leave lets those be gone of which a test says so.
func (s *Subs) leave(gone func(*subscription) bool) {
	// Of a copy, for the test may be another's, who looks at them meanwhile.
	s.list = slices.DeleteFunc(slices.Clone(s.list), gone)
}
