package gena

import (
	"strings"

	"hearth/api"
	"hearth/head"
	"hearth/inet"
	"hearth/value"
)

const (
	usualPort     = 80
	mostPort      = 65535
	longestTarget = 256

	secondsBegin = "Second-"
	mostSeconds  = 9999999 // of a TIMEOUT that tells a number
)

// has tells whether a request has a field of a name.
func has(r api.Request, name string) bool { return len(head.Get(r.Fields, name)) > 0 }

// subscriber gives where one is to be told who asks for a subscription.
func subscriber(r api.Request) (host api.Addr, port uint16, target string, ok bool) {
	kinds, callbacks := head.Get(r.Fields, "nt"), head.Get(r.Fields, "callback")
	if len(kinds) != 1 || kinds[0] != "upnp:event" || len(callbacks) != 1 {
		return 0, 0, "", false
	}
	return Callback(callbacks[0])
}

// asked gives for how many seconds a subscription is to last by a request.
func asked(r api.Request) uint64 {
	timeouts := head.Get(r.Fields, "timeout")
	if len(timeouts) == 0 {
		return api.MostTime
	}
	return Seconds(timeouts[0])
}

// endOf gives the address and the port of a text.
func endOf(s string) (host api.Addr, port uint16, ok bool) {
	text, digits, colon := strings.Cut(s, ":")
	host, ok = inet.Parse(text)
	if !colon {
		return host, usualPort, ok
	}
	n, _ := value.Num(digits, mostPort)
	return host, uint16(n), ok && n > 0 // Of what is no number n is 0, too.
}

// isTarget tells whether a text that has a slash ahead and no > may be a target.
func isTarget(s string) bool {
	if len(s) > longestTarget {
		return false
	}
	for i := range len(s) {
		if s[i] < 33 || s[i] > 126 || s[i] == '<' {
			return false
		}
	}
	return true
}
