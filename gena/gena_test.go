package gena_test

import (
	"fmt"
	"math"
	"slices"
	"strings"
	"testing"

	"hearth/api"
	"hearth/gena"
	"hearth/http"
	"hearth/xml"
)

// The signatures that the chapter lists.
var (
	_ func(int) *gena.Subs                                                          = gena.New
	_ func(*gena.Subs, api.Request, api.Addr, uint64, [2]uint64) (int, []api.Field) = (*gena.Subs).Subscribe
	_ func(*gena.Subs, api.Request, api.Addr) int                                   = (*gena.Subs).Unsubscribe
	_ func(*gena.Subs, uint64, []api.Arg) (api.Note, bool)                          = (*gena.Subs).Next
	_ func(*gena.Subs, string, bool, uint64)                                        = (*gena.Subs).Done
	_ func(*gena.Subs, uint64)                                                      = (*gena.Subs).Expire
	_ func(*gena.Subs, int, func(api.Addr) bool)                                    = (*gena.Subs).Drop
	_ func(*gena.Subs) int                                                          = (*gena.Subs).Len
	_ func(*gena.Subs) func(func(string) bool)                                      = (*gena.Subs).All
	_ func(string) (api.Addr, uint16, string, bool)                                 = gena.Callback
	_ func(string) uint64                                                           = gena.Seconds
	_ func([]api.Arg) []byte                                                        = gena.Body
)

const (
	a7 = 0xc0a80107
	a8 = 0xc0a80108
	a9 = 0xc0a80109

	last = math.MaxUint64
)

// request gives a request with fields of these names, each with its value behind it.
func request(pairs ...string) (r api.Request) {
	for p := range slices.Chunk(pairs, 2) {
		r.Fields = append(r.Fields, api.Field{Name: p[0], Value: p[1]})
	}
	return r
}

// address gives an address as a text.
func address(a api.Addr) string {
	return fmt.Sprintf("%d.%d.%d.%d", a>>24, a>>16&255, a>>8&255, a&255)
}

// at gives the CALLBACK of a host.
func at(host api.Addr) string { return "<http://" + address(host) + ":49152/e>" }

// asks gives a right request of a host for a subscription.
func asks(host api.Addr, more ...string) api.Request {
	return request(append([]string{"nt", "upnp:event", "callback", at(host)}, more...)...)
}

// sid gives the SID of two numbers.
func sid(draw ...uint64) string {
	s := fmt.Sprintf("%016x%016x", draw[0], draw[1])
	return "uuid:" + s[:8] + "-" + s[8:12] + "-" + s[12:16] + "-" + s[16:20] + "-" + s[20:]
}

func list(s *gena.Subs) []string { return slices.Collect(s.All()) }

// is wants just these subscriptions to be there: those whose draws are 0 and these numbers.
func is(t *testing.T, name string, s *gena.Subs, draws ...uint64) {
	t.Helper()
	var want []string
	for _, n := range draws {
		want = append(want, sid(0, n))
	}
	if got := list(s); !slices.Equal(got, want) || s.Len() != len(want) {
		t.Errorf("%s: %q, %d, not %q", name, got, s.Len(), want)
	}
}

// fields gives what is answered with 200.
func fields(sid string, seconds uint64) []api.Field {
	return []api.Field{{Name: "SID", Value: sid}, {Name: "TIMEOUT", Value: fmt.Sprint("Second-", seconds)}}
}

// subscribes wants a subscription of a host to be made with the draw 0 and n.
func subscribes(t *testing.T, s *gena.Subs, host api.Addr, now, n uint64, more ...string) {
	t.Helper()
	status, f := s.Subscribe(asks(host, more...), host, now, [2]uint64{0, n})
	if status != 200 || len(f) != 2 || f[0].Value != sid(0, n) {
		t.Fatalf("%d: %d, %v", n, status, f)
	}
}

// refused wants a SUBSCRIBE to be answered with a status and no fields, and nothing to have changed that can be listed.
func refused(t *testing.T, name string, s *gena.Subs, r api.Request, who api.Addr, draw [2]uint64, want int) {
	t.Helper()
	before := list(s)
	status, f := s.Subscribe(r, who, 5, draw)
	if status != want || len(f) != 0 {
		t.Errorf("%s: %d, %v, not %d", name, status, f, want)
	}
	if got := list(s); !slices.Equal(got, before) {
		t.Errorf("%s: %q, not %q", name, got, before)
	}
}

// renewed wants a SUBSCRIBE to renew the subscription with the draw 0 and n for so many seconds.
func renewed(t *testing.T, name string, s *gena.Subs, r api.Request, who api.Addr, now, n, seconds uint64) {
	t.Helper()
	before := list(s)
	status, f := s.Subscribe(r, who, now, [2]uint64{0, n})
	if status != 200 || !slices.Equal(f, fields(sid(0, n), seconds)) {
		t.Errorf("%s: %d, %v, not of %d seconds", name, status, f, seconds)
	}
	if got := list(s); !slices.Equal(got, before) {
		t.Errorf("%s: %q, not %q", name, got, before)
	}
}

// ends wants the only subscription to end at a second.
func ends(t *testing.T, name string, s *gena.Subs, second uint64) {
	t.Helper()
	s.Expire(second - 1)
	if s.Len() != 1 {
		t.Errorf("%s: gone ahead of %d", name, second)
	}
	s.Expire(second)
	if s.Len() != 0 {
		t.Errorf("%s: there at %d", name, second)
	}
}

// args gives variables of their names, each with its value behind it.
func args(pairs ...string) []api.Arg {
	var out []api.Arg
	for p := range slices.Chunk(pairs, 2) {
		out = append(out, api.Arg{Name: p[0], Value: p[1]})
	}
	return out
}

// body gives what is told of variables whose values have nothing to escape.
func body(vars ...api.Arg) string {
	s := ""
	for _, a := range vars {
		s += "<e:property><" + a.Name + ">" + a.Value + "</" + a.Name + "></e:property>"
	}
	return `<e:propertyset xmlns:e="urn:schemas-upnp-org:event-1-0">` + s + "</e:propertyset>"
}

func show(n api.Note) string {
	return fmt.Sprintf("%s %d %s:%d %q %q", n.SID, n.Seq, address(n.Host), n.Port, n.Target, n.Body)
}

// told wants the subscriber with the draw 0 and n to be told of these variables.
func told(t *testing.T, name string, s *gena.Subs, now uint64, vars []api.Arg, n uint64, seq uint32, of ...api.Arg) {
	t.Helper()
	x, ok := s.Next(now, vars)
	if !ok || x.SID != sid(0, n) || x.Seq != seq || string(x.Body) != body(of...) {
		t.Errorf("%s: %s, %t, not %d, %d and %s", name, show(x), ok, n, seq, body(of...))
	}
}

// nobody wants nobody to be told.
func nobody(t *testing.T, name string, s *gena.Subs, now uint64, vars []api.Arg) {
	t.Helper()
	x, ok := s.Next(now, vars)
	if ok || show(x) != show(api.Note{}) || x.Body != nil {
		t.Errorf("%s: %s, %t", name, show(x), ok)
	}
}

func TestP22_1New(t *testing.T) {
	for most, want := range map[int]int{math.MinInt: 0, -1: 0, 0: 0, 1: 1, 2: 2, 16: 16, 100: 100} {
		s := gena.New(most)
		is(t, "new", s)
		nobody(t, "new", s, last, args("A", "1"))
		for i := range want {
			subscribes(t, s, a7, 0, uint64(i))
		}
		refused(t, fmt.Sprint("most ", most), s, asks(a7), a7, [2]uint64{1, 1}, 503)
		if s.Len() != want {
			t.Errorf("%d: %d", most, s.Len())
		}
	}
	s := gena.New(math.MaxInt)
	subscribes(t, s, a7, 0, 1)
	is(t, "as many as there may be", s, 1)
}

func TestP22_2SIDs(t *testing.T) {
	for draw, want := range map[[2]uint64]string{
		{0, 0}:                                     "uuid:00000000-0000-0000-0000-000000000000",
		{last, last}:                               "uuid:ffffffff-ffff-ffff-ffff-ffffffffffff",
		{0x0123456789abcdef, 1}:                    "uuid:01234567-89ab-cdef-0000-000000000001",
		{1, 0x0123456789abcdef}:                    "uuid:00000000-0000-0001-0123-456789abcdef",
		{0xfedcba9876543210, 0x8000000000000000}:   "uuid:fedcba98-7654-3210-8000-000000000000",
		{0xABCDEF, 1 << 48}:                        "uuid:00000000-00ab-cdef-0001-000000000000",
		{1 << 32, 1 << 47}:                         "uuid:00000001-0000-0000-0000-800000000000",
		{1 << 63, last - 1}:                        "uuid:80000000-0000-0000-ffff-fffffffffffe",
		{0x00000000ffffffff, 0x0000ffffffffffff}:   "uuid:00000000-ffff-ffff-0000-ffffffffffff",
		{6364136223846793005, 1442695040888963407}: "uuid:5851f42d-4c95-7f2d-1405-7b7ef767814f",
	} {
		s := gena.New(1)
		status, f := s.Subscribe(asks(a7), a7, 0, draw)
		if status != 200 || !slices.Equal(f, fields(want, 1800)) || !slices.Equal(list(s), []string{want}) {
			t.Errorf("%x: %d, %v, %q", draw, status, f, list(s))
		}
	}
}

func TestP22_2Begins(t *testing.T) {
	for i, r := range []api.Request{
		asks(a7),
		request("callback", at(a7), "nt", "upnp:event"),
		asks(a7, "timeout", "Second-1800"),
		asks(a7, "timeout", "never"),
		asks(a7, "host", "192.168.1.1:5000", "user-agent", "a", "scope", "all", "statevar", "x", "content-length", "0"),
		// By other names than those in small letters nothing is told.
		asks(a7, "SID", "x", "NT", "x", "Callback", "x", "Timeout", "Second-60", "sid ", "x"),
		{Method: "POST", Target: "/x", Minor: 1, Body: []byte("sid: x"), Keep: true, Fields: asks(a7).Fields},
	} {
		s := gena.New(1)
		status, f := s.Subscribe(r, a7, 10, [2]uint64{0, 9})
		if status != 200 || !slices.Equal(f, fields(sid(0, 9), 1800)) {
			t.Errorf("%d: %d, %v", i, status, f)
		}
		x, ok := s.Next(10, args("A", "1"))
		if want := (api.Note{SID: sid(0, 9), Host: a7, Port: 49152, Target: "/e", Body: []byte(body(args("A", "1")...))}); !ok || show(x) != show(want) {
			t.Errorf("%d: %s, %t", i, show(x), ok)
		}
		ends(t, fmt.Sprint(i), s, 1810)
	}
}

func TestP22_2BeginsNot(t *testing.T) {
	nt, callback := []string{"nt", "upnp:event"}, []string{"callback", at(a7)}
	for name, r := range map[string]api.Request{
		"nothing":               request(),
		"no nt":                 request(callback...),
		"no callback":           request(nt...),
		"other nt":              request("nt", "upnp:rootdevice", "callback", at(a7)),
		"great nt":              request("nt", "UPNP:EVENT", "callback", at(a7)),
		"longer nt":             request("nt", "upnp:events", "callback", at(a7)),
		"blank behind nt":       request("nt", "upnp:event ", "callback", at(a7)),
		"empty nt":              request("nt", "", "callback", at(a7)),
		"two nts":               request("nt", "upnp:event", "nt", "upnp:event", "callback", at(a7)),
		"another nt":            request("nt", "upnp:event", "callback", at(a7), "nt", "x"),
		"two callbacks":         asks(a7, "callback", at(a7)),
		"another callback":      asks(a7, "callback", ""),
		"empty callback":        request("nt", "upnp:event", "callback", ""),
		"wrong callback":        request("nt", "upnp:event", "callback", at(a7)[1:]),
		"callback to another":   asks(a8),
		"callback to a name":    request("nt", "upnp:event", "callback", "<http://host/e>"),
		"callback to a second":  request("nt", "upnp:event", "callback", at(a8)+at(a7)),
		"names in great":        request("NT", "upnp:event", "CALLBACK", at(a7)),
		"with a right timeout":  request("nt", "x", "callback", at(a7), "timeout", "Second-300"),
		"nt for a callback":     request("nt", at(a7), "callback", "upnp:event"),
		"callback is of nobody": request("nt", "upnp:event", "callback", at(0)),
	} {
		refused(t, name, gena.New(1), r, a7, [2]uint64{0, 1}, 412)
		// What is wrong with the request is told ahead of what there is no room for.
		refused(t, name+", full", gena.New(0), r, a7, [2]uint64{0, 1}, 412)
		s := gena.New(2)
		subscribes(t, s, a9, 0, 1)
		refused(t, name+", the draw's SID is there", s, r, a7, [2]uint64{0, 1}, 412)
	}
	refused(t, "another one", gena.New(1), asks(a7), a8, [2]uint64{0, 1}, 412)
}

// Whoever asks is told, if only it asks for itself.
func TestP22_2Who(t *testing.T) {
	for _, who := range []api.Addr{0, 1, a7, 0x08080808, math.MaxUint32} {
		s := gena.New(1)
		subscribes(t, s, who, 0, 1)
		if x, ok := s.Next(0, args("A", "1")); !ok || x.Host != who {
			t.Errorf("%s, %t", show(x), ok)
		}
	}
}

func TestP22_2Full(t *testing.T) {
	s := gena.New(3)
	subscribes(t, s, a7, 0, 1)
	subscribes(t, s, a8, 0, 2)
	refused(t, "the SID is there", s, asks(a7), a7, [2]uint64{0, 1}, 503)
	refused(t, "the SID is another's", s, asks(a9), a9, [2]uint64{0, 1}, 503)
	subscribes(t, s, a7, 0, 3) // One host may have several.
	refused(t, "full", s, asks(a9), a9, [2]uint64{0, 4}, 503)
	refused(t, "full, and the SID is there", s, asks(a9), a9, [2]uint64{0, 2}, 503)
	is(t, "full", s, 1, 2, 3)
	renewed(t, "full", s, request("sid", sid(0, 2)), a8, 0, 2, 1800)
	if n := s.Unsubscribe(request("sid", sid(0, 2)), a8); n != 200 {
		t.Error(n)
	}
	subscribes(t, s, a9, 0, 2)
	is(t, "the last one is new", s, 1, 3, 2)
}

// A refusal changes nothing, neither when a subscription ends nor what it is told.
func TestP22_2RefusalChangesNothing(t *testing.T) {
	s := gena.New(1)
	subscribes(t, s, a7, 10, 1, "timeout", "Second-100")
	refused(t, "400", s, asks(a7, "sid", sid(0, 1)), a7, [2]uint64{0, 1}, 400)
	refused(t, "412", s, request("sid", sid(0, 1), "timeout", "Second-300"), a8, [2]uint64{0, 1}, 412)
	refused(t, "412", s, asks(a8, "timeout", "Second-300"), a7, [2]uint64{0, 1}, 412)
	refused(t, "503", s, asks(a7, "timeout", "Second-300"), a7, [2]uint64{0, 1}, 503)
	refused(t, "503", s, asks(a7, "timeout", "Second-300"), a7, [2]uint64{0, 2}, 503)
	nobody(t, "may be told from 10 on", s, 9, args("A", "1"))
	told(t, "once", s, 10, args("A", "1"), 1, 0, args("A", "1")...)
	nobody(t, "twice", s, 10, args("A", "2"))
	ends(t, "as it was", s, 110)
}

func TestP22_2Renews(t *testing.T) {
	for i, c := range []struct {
		r    api.Request
		want uint64
	}{
		{request("sid", sid(0, 1)), 1800},
		{request("sid", sid(0, 1), "timeout", "Second-300"), 300},
		{request("timeout", "Second-300", "sid", sid(0, 1)), 300},
		{request("sid", sid(0, 1), "timeout", "Second-1"), 60},
		{request("sid", sid(0, 1), "timeout", "Second-1801"), 1800},
		{request("sid", sid(0, 1), "timeout", "infinite"), 1800},
		{request("sid", sid(0, 1), "timeout", ""), 1800},
		{request("sid", sid(0, 1), "timeout", "Second-61", "timeout", "Second-62"), 61},
		{request("sid", sid(0, 1), "timeout", "x", "timeout", "Second-62"), 1800},
		{request("sid", sid(0, 1), "Timeout", "Second-62"), 1800},
		{request("sid", sid(0, 1), "NT", "upnp:event", "CALLBACK", at(a8), "host", "a"), 1800},
	} {
		for _, now := range []uint64{0, 1, 99, 100, 1000, 1 << 62} { // It may be late: it is there till it is Expired.
			s := gena.New(1)
			subscribes(t, s, a7, 0, 1, "timeout", "Second-100")
			renewed(t, fmt.Sprint(i), s, c.r, a7, now, 1, c.want)
			ends(t, fmt.Sprint(i, " at ", now), s, now+c.want)
		}
	}
}

func TestP22_2RenewsNot(t *testing.T) {
	own := sid(0, 1)
	for name, c := range map[string]struct {
		r    api.Request
		who  api.Addr
		want int
	}{
		"two sids":               {request("sid", own, "sid", own), a7, 400},
		"another sid":            {request("sid", own, "timeout", "Second-300", "sid", ""), a7, 400},
		"an nt":                  {request("sid", own, "nt", "upnp:event"), a7, 400},
		"an empty nt":            {request("sid", own, "nt", ""), a7, 400},
		"a callback":             {request("sid", own, "callback", at(a7)), a7, 400},
		"an empty callback":      {request("callback", "", "sid", own), a7, 400},
		"all":                    {asks(a7, "sid", own), a7, 400},
		"all, no sid's value":    {asks(a7, "sid", ""), a7, 400},
		"two wrong sids":         {request("sid", "x", "sid", "y"), a7, 400},
		"an nt, a wrong sid":     {request("sid", "x", "nt", "upnp:event"), a7, 400},
		"a callback, another":    {request("sid", own, "callback", at(a8)), a8, 400},
		"another host":           {request("sid", own), a8, 412},
		"nobody":                 {request("sid", own), 0, 412},
		"another's sid":          {request("sid", sid(0, 2)), a7, 412},
		"none's sid":             {request("sid", sid(0, 3)), a7, 412},
		"an empty sid":           {request("sid", ""), a7, 412},
		"a blank behind the sid": {request("sid", own+" "), a7, 412},
		"a blank ahead of it":    {request("sid", " "+own), a7, 412},
		"great letters":          {request("sid", strings.ToUpper(own)), a7, 412},
		"without uuid:":          {request("sid", own[5:]), a7, 412},
		"a part":                 {request("sid", own[:len(own)-1]), a7, 412},
		"without -":              {request("sid", strings.ReplaceAll(own, "-", "")), a7, 412},
	} {
		s := gena.New(2)
		subscribes(t, s, a7, 0, 1, "timeout", "Second-100")
		subscribes(t, s, a8, 0, 2, "timeout", "Second-100")
		refused(t, name, s, c.r, c.who, [2]uint64{0, 9}, c.want)
		s.Expire(99)
		is(t, name, s, 1, 2)
		s.Expire(100)
		is(t, name, s)
	}
}

// A SID with letters in it is no other one in great letters.
func TestP22_2SIDsLetters(t *testing.T) {
	s := gena.New(1)
	s.Subscribe(asks(a7), a7, 0, [2]uint64{last, last})
	refused(t, "great letters", s, request("sid", "uuid:"+strings.ToUpper(sid(last, last)[5:])), a7, [2]uint64{0, 9}, 412)
	if n, _ := s.Subscribe(request("sid", sid(last, last)), a7, 0, [2]uint64{}); n != 200 {
		t.Error(n)
	}
}

// What is renewed stays what it was, in its place, and is told likewise.
func TestP22_2RenewedStays(t *testing.T) {
	s := gena.New(2)
	subscribes(t, s, a7, 10, 1)
	subscribes(t, s, a8, 10, 2)
	told(t, "first", s, 10, args("A", "1"), 1, 0, args("A", "1")...)
	renewed(t, "told", s, request("sid", sid(0, 1)), a7, 20, 1, 1800)
	is(t, "told", s, 1, 2)
	told(t, "it is told still", s, 20, args("A", "1"), 2, 0, args("A", "1")...)
	s.Done(sid(0, 1), true, 20)
	renewed(t, "done", s, request("sid", sid(0, 1)), a7, 20, 1, 1800)
	nobody(t, "not at 20", s, 20, args("A", "2"))
	x, ok := s.Next(21, args("A", "2"))
	if want := (api.Note{SID: sid(0, 1), Seq: 1, Host: a7, Port: 49152, Target: "/e", Body: []byte(body(args("A", "2")...))}); !ok || show(x) != show(want) {
		t.Errorf("%s, %t", show(x), ok)
	}
}

func TestP22_2SumsStop(t *testing.T) {
	for _, now := range []uint64{last, last - 1, last - 59, last - 60} {
		s := gena.New(1)
		subscribes(t, s, a7, now, 1, "timeout", "Second-60")
		ends(t, fmt.Sprint(now), s, last)
		s = gena.New(1)
		subscribes(t, s, a7, 0, 1)
		renewed(t, fmt.Sprint(now), s, request("sid", sid(0, 1), "timeout", "Second-60"), a7, now, 1, 60)
		ends(t, fmt.Sprint(now), s, last)
	}
	s := gena.New(1)
	subscribes(t, s, a7, last-61, 1, "timeout", "Second-60")
	ends(t, "one less", s, last-1)
}

func TestP22_3Unsubscribe(t *testing.T) {
	own := sid(0, 2)
	for name, c := range map[string]struct {
		r    api.Request
		who  api.Addr
		want int
	}{
		"nothing":              {request(), a8, 400},
		"no sid":               {request("timeout", "Second-300", "SID", own), a8, 400},
		"two sids":             {request("sid", own, "sid", own), a8, 400},
		"another sid":          {request("sid", own, "host", "a", "sid", "x"), a8, 400},
		"an nt":                {request("sid", own, "nt", "upnp:event"), a8, 400},
		"an empty nt":          {request("nt", "", "sid", own), a8, 400},
		"a callback":           {request("sid", own, "callback", at(a8)), a8, 400},
		"an empty callback":    {request("callback", "", "sid", own), a8, 400},
		"what subscribes":      {asks(a8), a8, 400},
		"an nt, a wrong sid":   {request("sid", "x", "nt", "upnp:event"), a8, 400},
		"a callback, another":  {request("sid", own, "callback", at(a8)), a7, 400},
		"another host":         {request("sid", own), a7, 412},
		"nobody":               {request("sid", own), 0, 412},
		"another's sid":        {request("sid", sid(0, 1)), a8, 412},
		"none's sid":           {request("sid", sid(0, 4)), a8, 412},
		"an empty sid":         {request("sid", ""), a8, 412},
		"a part":               {request("sid", own[:len(own)-1]), a8, 412},
		"a blank behind it":    {request("sid", own+" "), a8, 412},
		"its own":              {request("sid", own), a8, 200},
		"its own, among other": {request("host", "a", "sid", own, "timeout", "x", "NT", "x", "Callback", "x"), a8, 200},
	} {
		s := gena.New(3)
		subscribes(t, s, a7, 0, 1)
		subscribes(t, s, a8, 0, 2)
		subscribes(t, s, a9, 0, 3)
		if n := s.Unsubscribe(c.r, c.who); n != c.want {
			t.Errorf("%s: %d, not %d", name, n, c.want)
		}
		if c.want == 200 {
			is(t, name, s, 1, 3)
		} else {
			is(t, name, s, 1, 2, 3)
		}
	}
}

func TestP22_3IsGone(t *testing.T) {
	s := gena.New(1)
	subscribes(t, s, a7, 0, 1)
	told(t, "told", s, 0, args("A", "1"), 1, 0, args("A", "1")...)
	for _, want := range []int{200, 412, 412} {
		if n := s.Unsubscribe(request("sid", sid(0, 1)), a7); n != want {
			t.Errorf("%d, not %d", n, want)
		}
	}
	refused(t, "gone", s, request("sid", sid(0, 1)), a7, [2]uint64{0, 1}, 412)
	// What was told of it plays no part for another one of the same SID.
	subscribes(t, s, a7, 0, 1)
	s.Done(sid(0, 1), false, 0)
	is(t, "new", s, 1)
	told(t, "new", s, 0, args("A", "1"), 1, 0, args("A", "1")...)
}

func TestP22_4Notes(t *testing.T) {
	s := gena.New(1)
	r := request("nt", "upnp:event", "callback", "<http://192.168.1.7/a?b=1&c#d><http://192.168.1.8/>")
	if n, _ := s.Subscribe(r, a7, 7, [2]uint64{1, 2}); n != 200 {
		t.Fatal(n)
	}
	x, ok := s.Next(7, args("A", "1", "B", `<&">'`))
	want := api.Note{SID: sid(1, 2), Host: a7, Port: 80, Target: "/a?b=1&c#d", Body: []byte(`<e:propertyset xmlns:e="urn:schemas-upnp-org:event-1-0"><e:property><A>1</A></e:property><e:property><B>&lt;&amp;&quot;&gt;'</B></e:property></e:propertyset>`)}
	if !ok || show(x) != show(want) {
		t.Errorf("%s, %t", show(x), ok)
	}
}

// Each next list of variables, and what is told of it behind the one ahead.
func TestP22_4Changes(t *testing.T) {
	s, now := gena.New(1), uint64(0)
	subscribes(t, s, a7, 0, 1)
	seq := uint32(0)
	for i, c := range []struct {
		vars []api.Arg
		any  bool
		of   []api.Arg
	}{
		{nil, false, nil}, // It was told of none.
		{[]api.Arg{}, false, nil},
		{args("A", "1", "B", "2"), true, args("A", "1", "B", "2")},
		{args("A", "1", "B", "2"), false, nil},
		{args("A", "1", "B", "3"), true, args("B", "3")},
		{args("A", "2", "B", "3"), true, args("A", "2")},
		{args("A", "1", "B", "2"), true, args("A", "1", "B", "2")},
		{args("B", "2", "A", "1"), true, nil}, // Another order is another list, with nothing new in it.
		{args("B", "2", "A", "1"), false, nil},
		{args("B", "2", "A", "1", "C", ""), true, args("C", "")},
		{args("A", "1", "C", ""), true, nil},
		{args("A", "", "C", "1"), true, args("A", "", "C", "1")},
		{args("C", "", "A", "1"), true, args("C", "", "A", "1")},
		{args("A", "C", "1", ""), true, args("A", "C", "1", "")},
		{args("A", "1", "A", "2"), true, args("A", "1", "A", "2")},
		{args("A", "2", "A", "1"), true, nil},
		{args("A", "2", "A", "1", "A", "3", "A", "3"), true, args("A", "3", "A", "3")},
		{args("A", "2", "A", "1", "A", "3"), true, nil},
		{args("a", "2", "A", "1", "A", "3"), true, args("a", "2")},
		{args("a", "2"), true, nil},
		{args("a", "2 "), true, args("a", "2 ")},
		{nil, true, nil},
		{nil, false, nil},
		{args("", ""), true, args("", "")},
		{args("", "", "", ""), true, nil},
		{[]api.Arg{}, true, nil},
	} {
		if !c.any {
			nobody(t, fmt.Sprint(i), s, now, c.vars)
			continue
		}
		told(t, fmt.Sprint(i), s, now, c.vars, 1, seq, c.of...)
		s.Done(sid(0, 1), true, now)
		now++
		seq++
	}
}

// A change is held against what was told last, whatever came to pass between.
func TestP22_4Between(t *testing.T) {
	s := gena.New(1)
	subscribes(t, s, a7, 0, 1)
	told(t, "first", s, 0, args("A", "1", "B", "1"), 1, 0, args("A", "1", "B", "1")...)
	nobody(t, "told", s, 0, args("A", "2", "B", "1"))
	s.Done(sid(0, 1), true, 5)
	nobody(t, "too soon", s, 5, args("A", "3", "B", "1"))
	nobody(t, "as it was told", s, 6, args("A", "1", "B", "1"))
	told(t, "second", s, 6, args("A", "1", "B", "4"), 1, 1, args("B", "4")...)
	s.Done(sid(0, 1), true, 6)
	told(t, "third", s, 7, args("A", "1", "B", "1"), 1, 2, args("B", "1")...)
}

func TestP22_4FirstOfAll(t *testing.T) {
	s := gena.New(4)
	one, two := args("A", "1"), args("A", "2")
	subscribes(t, s, a7, 0, 3)
	subscribes(t, s, a8, 5, 2)
	subscribes(t, s, a9, 0, 1)
	told(t, "the first one made", s, 0, one, 3, 0, one...)
	told(t, "the second one may not be told", s, 4, one, 1, 0, one...)
	nobody(t, "may not be told", s, 4, one)
	told(t, "the second one", s, 5, one, 2, 0, one...)
	nobody(t, "all are told", s, last, two)
	s.Done(sid(0, 1), true, 5)
	s.Done(sid(0, 3), true, 6)
	nobody(t, "too soon", s, 5, two)
	told(t, "the last one", s, 6, two, 1, 1, two...)
	nobody(t, "too soon", s, 6, two)
	nobody(t, "knows it", s, 7, one)
	told(t, "the first one", s, 7, two, 3, 1, two...)
	nobody(t, "all are told", s, last, one)
	subscribes(t, s, a7, 7, 4)
	told(t, "a new one", s, 7, two, 4, 0, two...)
}

// One that isn't there yet is told of by its own second on.
func TestP22_4FromItsSecondOn(t *testing.T) {
	for _, now := range []uint64{1, 1000, last} {
		s := gena.New(1)
		subscribes(t, s, a7, now, 1)
		nobody(t, "ahead", s, now-1, args("A", "1"))
		nobody(t, "at the beginning", s, 0, args("A", "1"))
		told(t, "now", s, now, args("A", "1"), 1, 0, args("A", "1")...)
	}
}

// One that has ended is told of till it is Expired.
func TestP22_4Ended(t *testing.T) {
	s := gena.New(1)
	subscribes(t, s, a7, 0, 1, "timeout", "Second-60")
	told(t, "ended", s, 100, args("A", "1"), 1, 0, args("A", "1")...)
}

func TestP22_4Many(t *testing.T) {
	s := gena.New(1)
	subscribes(t, s, a7, 0, 1)
	var vars []api.Arg
	for i := range 20000 {
		vars = append(vars, api.Arg{Name: fmt.Sprint("N", i), Value: "1"})
	}
	told(t, "all", s, 0, vars, 1, 0, vars...)
	s.Done(sid(0, 1), true, 0)
	vars[777].Value, vars[19999].Name = "2", "M"
	told(t, "two of them", s, 1, vars, 1, 1, vars[777], vars[19999])
}

func TestP22_5Done(t *testing.T) {
	s := gena.New(3)
	one := args("A", "1")
	subscribes(t, s, a7, 0, 1)
	subscribes(t, s, a8, 0, 2)
	subscribes(t, s, a9, 0, 3)
	for _, other := range []string{"", "x", sid(0, 4), sid(0, 1)[5:], sid(0, 1), sid(0, 2)} { // None of them is told.
		s.Done(other, false, 0)
		s.Done(other, true, 100)
	}
	is(t, "none is told", s, 1, 2, 3)
	for n := range uint64(3) {
		told(t, "all are", s, 0, one, n+1, 0, one...)
	}
	s.Done(sid(0, 4), false, 0)
	s.Done("", false, 0)
	s.Done(sid(0, 2)+" ", false, 0)
	is(t, "of another", s, 1, 2, 3)
	s.Done(sid(0, 2), false, 0)
	is(t, "refused", s, 1, 3)
	s.Done(sid(0, 2), false, 0)
	s.Done(sid(0, 1), true, 8)
	is(t, "taken", s, 1, 3)
	s.Done(sid(0, 1), true, 100) // It isn't told any more.
	s.Done(sid(0, 1), false, 8)
	is(t, "not told", s, 1, 3)
	two := args("A", "2")
	nobody(t, "at 8", s, 8, two)
	told(t, "at 9", s, 9, two, 1, 1, two...)
	nobody(t, "the third one is told", s, 9, two)
}

func TestP22_5Seq(t *testing.T) {
	s := gena.New(1)
	subscribes(t, s, a7, 0, 1)
	for i := range uint32(1000) {
		vars := args("A", fmt.Sprint(i))
		told(t, "rises", s, uint64(i), vars, 1, i, vars...)
		s.Done(sid(0, 1), true, uint64(i))
	}
}

func TestP22_5SumsStop(t *testing.T) {
	s := gena.New(1)
	subscribes(t, s, a7, 0, 1)
	told(t, "first", s, last, args("A", "1"), 1, 0, args("A", "1")...)
	s.Done(sid(0, 1), true, last-1)
	nobody(t, "at the last second but one", s, last-1, args("A", "2"))
	told(t, "second", s, last, args("A", "2"), 1, 1, args("A", "2")...)
	s.Done(sid(0, 1), true, last)
	nobody(t, "ahead of it", s, last-1, args("A", "3"))
	told(t, "third", s, last, args("A", "3"), 1, 2, args("A", "3")...)
}

func TestP22_6Expire(t *testing.T) {
	s := gena.New(4)
	subscribes(t, s, a7, 0, 1, "timeout", "Second-100")
	subscribes(t, s, a8, 0, 2, "timeout", "Second-99")
	subscribes(t, s, a7, 40, 3, "timeout", "Second-60")
	subscribes(t, s, a9, 0, 4, "timeout", "Second-101")
	for n := range uint64(4) { // Whether they are told plays no part.
		if n != 1 {
			s.Next(100, args("A", "1"))
		}
	}
	for _, c := range []struct {
		now  uint64
		want []uint64
	}{{0, []uint64{1, 2, 3, 4}}, {98, []uint64{1, 2, 3, 4}}, {99, []uint64{1, 3, 4}}, {0, []uint64{1, 3, 4}}, {100, []uint64{4}}, {100, []uint64{4}}, {last, nil}, {last, nil}} {
		s.Expire(c.now)
		is(t, fmt.Sprint(c.now), s, c.want...)
	}
	s.Done(sid(0, 1), true, 100)
	is(t, "gone", s)
	subscribes(t, s, a7, 0, 1)
	told(t, "as if it had not been", s, 0, args("A", "1"), 1, 0, args("A", "1")...)
}

// five gives subscriptions with the draws 1 to 5 of .7, .8, .7, .9 and .8.
func five(t *testing.T) *gena.Subs {
	t.Helper()
	s := gena.New(5)
	for i, who := range []api.Addr{a7, a8, a7, a9, a8} {
		subscribes(t, s, who, 0, uint64(i+1))
	}
	return s
}

func all(api.Addr) bool { return true }

func TestP22_6Drop(t *testing.T) {
	not := func(who api.Addr) func(api.Addr) bool { return func(a api.Addr) bool { return a != who } }
	for name, c := range map[string]struct {
		most  int
		right func(api.Addr) bool
		want  []uint64
	}{
		"none":             {5, all, []uint64{1, 2, 3, 4, 5}},
		"more":             {9, all, []uint64{1, 2, 3, 4, 5}},
		"most":             {math.MaxInt, all, []uint64{1, 2, 3, 4, 5}},
		"one too many":     {4, all, []uint64{1, 2, 3, 4}},
		"one":              {1, all, []uint64{1}},
		"room for none":    {0, all, nil},
		"below":            {-1, all, nil},
		"least":            {math.MinInt, all, nil},
		"not .7":           {5, not(a7), []uint64{2, 4, 5}},
		"not .8":           {5, not(a8), []uint64{1, 3, 4}},
		"not .9":           {5, not(a9), []uint64{1, 2, 3, 5}},
		"none is right":    {5, func(api.Addr) bool { return false }, nil},
		"not .7, room":     {3, not(a7), []uint64{2, 4, 5}}, // The hosts go first, then what is too many.
		"not .7, too many": {2, not(a7), []uint64{2, 4}},
		"not .8, one":      {1, not(a8), []uint64{1}},
	} {
		s := five(t)
		s.Drop(c.most, c.right)
		is(t, name, s, c.want...)
		// Then so many may be there.
		for i := len(c.want); i < min(c.most, 12); i++ {
			subscribes(t, s, a7, 0, uint64(100+i))
		}
		if c.most <= 12 {
			refused(t, name, s, asks(a7), a7, [2]uint64{7, 7}, 503)
		}
		if s.Len() != min(max(c.most, 0), 12) && c.most <= 12 {
			t.Errorf("%s: %d", name, s.Len())
		}
	}
}

// Who is asked whether a host is right may look: all are there as they were.
func TestP22_6DropLooks(t *testing.T) {
	s := five(t)
	var asked []api.Addr
	s.Drop(2, func(a api.Addr) bool {
		is(t, "meanwhile", s, 1, 2, 3, 4, 5)
		asked = append(asked, a)
		return a != a7
	})
	is(t, "then", s, 2, 4)
	if !slices.Equal(asked, []api.Addr{a7, a8, a7, a9, a8}) {
		t.Errorf("%x", asked)
	}
}

// What stays stays as it was.
func TestP22_6Stays(t *testing.T) {
	s := five(t)
	one, two := args("A", "1"), args("A", "2")
	for n := range uint64(5) {
		told(t, "first", s, 0, one, n+1, 0, one...)
	}
	s.Done(sid(0, 4), true, 3)
	s.Drop(5, func(a api.Addr) bool { return a != a8 })
	s.Expire(1799)
	is(t, "some", s, 1, 3, 4)
	nobody(t, "two of them are told, the third one too soon", s, 3, two)
	told(t, "the third one", s, 4, two, 4, 1, two...)
	s.Done(sid(0, 3), true, 4)
	told(t, "the second one", s, 5, two, 3, 1, two...)
	s.Expire(1800)
	is(t, "ended", s)
}

func TestP22_6All(t *testing.T) {
	s := five(t)
	for n := range 5 {
		var got []string
		for x := range s.All() {
			got = append(got, x)
			if len(got) == n+1 {
				break
			}
		}
		if !slices.Equal(got, list(s)[:n+1]) {
			t.Errorf("%d: %q", n, got)
		}
	}
	// It ends when it is told so: who asks is called no more.
	calls := 0
	s.All()(func(string) bool { calls++; return calls < 2 })
	if calls != 2 {
		t.Error(calls)
	}
	for range gena.New(3).All() {
		t.Error("of none")
	}
	// They are gone through as they are then, as often as one likes.
	through := s.All()
	s.Unsubscribe(request("sid", sid(0, 2)), a8)
	subscribes(t, s, a9, 0, 2)
	for range 2 {
		if got, want := slices.Collect(through), []string{sid(0, 1), sid(0, 3), sid(0, 4), sid(0, 5), sid(0, 2)}; !slices.Equal(got, want) {
			t.Errorf("%q, not %q", got, want)
		}
	}
}

// From one that is gone nothing is left over for the next one.
func TestP22_6ByThemselves(t *testing.T) {
	one, two := gena.New(2), gena.New(2)
	subscribes(t, one, a7, 0, 1)
	subscribes(t, two, a8, 0, 2)
	told(t, "one", one, 0, args("A", "1"), 1, 0, args("A", "1")...)
	one.Done(sid(0, 1), false, 0)
	two.Done(sid(0, 1), false, 0)
	is(t, "one", one)
	is(t, "two", two, 2)
	one.Drop(0, all)
	subscribes(t, two, a8, 0, 1)
	told(t, "two", two, 0, args("A", "1"), 2, 0, args("A", "1")...)
	told(t, "two", two, 0, args("A", "1"), 1, 0, args("A", "1")...)
	one.Expire(last)
	is(t, "two", two, 2, 1)
}

// What the parser of layer 16 reads of a subscriber's stream is what is asked for here.
func TestP22_2FromAStream(t *testing.T) {
	s, p := gena.New(1), http.New()
	stream := "SUBSCRIBE /evt/ipc HTTP/1.1\r\nHOST: 192.168.1.1:5000\r\nCallBack:  " + at(a7) + " \r\nNT:upnp:event\r\nTIMEOUT: Second-300\r\n\r\n" +
		"SUBSCRIBE /evt/ipc HTTP/1.1\r\nHOST: a\r\nSid: " + sid(0, 1) + "\r\n\r\n" +
		"UNSUBSCRIBE /evt/ipc HTTP/1.1\r\nHOST: a\r\nsID:\t" + sid(0, 1) + "\r\n\r\n"
	asked := p.Feed([]byte(stream))
	if len(asked) != 3 {
		t.Fatal(asked)
	}
	if n, f := s.Subscribe(asked[0].Request, a7, 0, [2]uint64{0, 1}); n != 200 || !slices.Equal(f, fields(sid(0, 1), 300)) {
		t.Error(n, f)
	}
	if n, f := s.Subscribe(asked[1].Request, a7, 0, [2]uint64{0, 2}); n != 200 || !slices.Equal(f, fields(sid(0, 1), 1800)) {
		t.Error(n, f)
	}
	if n := s.Unsubscribe(asked[2].Request, a7); n != 200 || s.Len() != 0 {
		t.Error(n)
	}
}

func TestP22_7Callback(t *testing.T) {
	long := strings.Repeat("x", 255)
	for s, want := range map[string]struct {
		host   api.Addr
		port   uint16
		target string
	}{
		"<http://192.168.1.7:49152/e?1>":              {a7, 49152, "/e?1"},
		"<http://192.168.1.7/>":                       {a7, 80, "/"},
		"<http://192.168.1.7:80/>":                    {a7, 80, "/"},
		"<http://192.168.1.7:1/a>":                    {a7, 1, "/a"},
		"<http://192.168.1.7:65535/a>":                {a7, 65535, "/a"},
		"<http://192.168.1.7:0000000080/a>":           {a7, 80, "/a"},
		"<http://192.168.1.7:007/a>":                  {a7, 7, "/a"},
		"<http://0.0.0.0/a>":                          {0, 80, "/a"},
		"<http://255.255.255.255/a>":                  {math.MaxUint32, 80, "/a"},
		"<http://192.168.1.7//>":                      {a7, 80, "//"},
		"<http://192.168.1.7//a//b:9/>":               {a7, 80, "//a//b:9/"},
		"<http://192.168.1.7:5/:7/@x>":                {a7, 5, "/:7/@x"},
		"<http://192.168.1.7/http://1.2.3.4/>":        {a7, 80, "/http://1.2.3.4/"},
		"<http://192.168.1.7/~!\"#$%&'()*+,-.;=?[]>":  {a7, 80, "/~!\"#$%&'()*+,-.;=?[]"},
		"<http://192.168.1.7/" + long + ">":           {a7, 80, "/" + long},
		"<http://192.168.1.7/a>>":                     {a7, 80, "/a"},
		"<http://192.168.1.7/a>b":                     {a7, 80, "/a"},
		"<http://192.168.1.7/a> \r\n\x00\xff<":        {a7, 80, "/a"},
		"<http://192.168.1.7/a><http://192.168.1.8/>": {a7, 80, "/a"},
		"<http://192.168.1.7/a>" + long + long + ">":  {a7, 80, "/a"},
	} {
		host, port, target, ok := gena.Callback(s)
		if !ok || host != want.host || port != want.port || target != want.target {
			t.Errorf("%q: %x, %d, %q, %t", s, uint32(host), port, target, ok)
		}
	}
}

// none wants a text to be no CALLBACK.
func none(t *testing.T, s string) {
	t.Helper()
	if host, port, target, ok := gena.Callback(s); ok || host != 0 || port != 0 || target != "" {
		t.Errorf("%.300q: %x, %d, %q, %t", s, uint32(host), port, target, ok)
	}
}

func TestP22_7CallbackWrong(t *testing.T) {
	long := strings.Repeat("x", 256)
	for _, s := range []string{
		"", "<", ">", "<>", "x", "/", "http://192.168.1.7/e", "http://192.168.1.7/e>", "<http://192.168.1.7/e", " <http://192.168.1.7/e>", "x<http://192.168.1.7/e>", "<<http://192.168.1.7/e>",
		"< http://192.168.1.7/e>", "<HTTP://192.168.1.7/e>", "<Http://192.168.1.7/e>", "<https://192.168.1.7/e>", "<http:/192.168.1.7/e>", "<http:192.168.1.7/e>", "<//192.168.1.7/e>", "<192.168.1.7/e>",
		"<http://>", "<http:///>", "<http:///e>", "<http://:80/e>", "<http://host/e>", "<http://localhost:80/e>", "<http://192.168.1/e>", "<http://192.168.1.7.1/e>", "<http://192.168.1.256/e>", "<http://192.168.01.7/e>", "<http://192.168.1.7./e>",
		"<http:// 192.168.1.7/e>", "<http://192.168.1.7 /e>", "<http://[::1]/e>", "<http://a@192.168.1.7/e>", "<http://0xc0.168.1.7/e>", "<http://3232235783/e>",
		"<http://192.168.1.7>", "<http://192.168.1.7:80>", "<http://192.168.1.7?e>", "<http://192.168.1.7#e>", "<http://192.168.1.7>/e>", "<http://192.168.1.7:80>/e>", "<http://192.168.1.7\\e>",
		"<http://192.168.1.7:/e>", "<http://192.168.1.7:0/e>", "<http://192.168.1.7:00/e>", "<http://192.168.1.7:65536/e>", "<http://192.168.1.7:99999/e>", "<http://192.168.1.7:4294967376/e>", "<http://192.168.1.7:00000000080/e>", "<http://192.168.1.7:18446744073709551696/e>",
		"<http://192.168.1.7:-1/e>", "<http://192.168.1.7:+80/e>", "<http://192.168.1.7: 80/e>", "<http://192.168.1.7:80 /e>", "<http://192.168.1.7:8x/e>", "<http://192.168.1.7:0x50/e>", "<http://192.168.1.7:8_0/e>", "<http://192.168.1.7:80:80/e>", "<http://192.168.1.7::80/e>", "<http://192.168.1.7:\u0661/e>",
		"<http://192.168.1.7/e e>", "<http://192.168.1.7/ >", "<http://192.168.1.7/e\t>", "<http://192.168.1.7/e<>", "<http://192.168.1.7/<e>", "<http://192.168.1.7/e\x00>", "<http://192.168.1.7/\x7f>", "<http://192.168.1.7/\u00e4>", "<http://192.168.1.7/\xff>", "<http://192.168.1.7/e\r\n>", "<http://192.168.1.7/e\n",
		"<http://192.168.1.7/" + long + ">", "<http://192.168.1.7/" + strings.Repeat(long, 256) + ">", "<http://192.168.1.7/" + long[1:], "<http://" + strings.Repeat("1", 70000) + "/e>",
	} {
		none(t, s)
	}
	whole := "<http://192.168.1.7:49152/e?1>"
	for i := range len(whole) {
		none(t, whole[:i])
		if i > 0 {
			none(t, whole[i:])
		}
	}
}

func TestP22_7CallbackBytes(t *testing.T) {
	for c := range 256 {
		one := string([]byte{byte(c)})
		ok := c >= 33 && c <= 126 && c != '<'
		for _, x := range []struct{ ahead, behind string }{{"", ""}, {"a", ""}, {"", "a"}, {strings.Repeat("a", 254), ""}} {
			want := "/" + x.ahead + one + x.behind
			if c == '>' { // The target ends there.
				want = "/" + x.ahead
			}
			_, _, target, got := gena.Callback("<http://192.168.1.7:5/" + x.ahead + one + x.behind + ">")
			if got != ok || ok && target != want {
				t.Errorf("%q: %q, %t", one, target, got)
			}
		}
	}
}

func TestP22_7Seconds(t *testing.T) {
	for s, want := range map[string]uint64{
		"Second-0": 60, "Second-1": 60, "Second-59": 60, "Second-60": 60, "Second-61": 61, "Second-300": 300, "Second-1799": 1799, "Second-1800": 1800, "Second-1801": 1800, "Second-9999": 1800, "Second-9999999": 1800,
		"Second-0000000": 60, "Second-0000100": 100, "Second-0000060": 60, "Second-00000100": 1800, "Second-10000000": 1800, "Second-00000000": 1800, "Second-18446744073709551716": 1800,
		"": 1800, "100": 1800, "-100": 1800, "Second": 1800, "Second-": 1800, "Second100": 1800, "Second 100": 1800, "Second- 100": 1800, "Second-100 ": 1800, " Second-100": 1800, "Second--100": 1800, "Second-+100": 1800, "Second-1e2": 1800, "Second-0x64": 1800, "Second-1_0": 1800, "Second-a": 1800, "Second-100,Second-200": 1800,
		"second-100": 1800, "SECOND-100": 1800, "Seconds-100": 1800, "infinite": 1800, "Second-infinite": 1800, "Second-100\x00": 1800, "\xff": 1800, "Second-\u0661\u0661\u0661": 1800,
		"Second-Second-100": 1800,
	} {
		if got := gena.Seconds(s); got != want {
			t.Errorf("%q: %d, not %d", s, got, want)
		}
	}
	for n := range uint64(2500) {
		if got, want := gena.Seconds(fmt.Sprint("Second-", n)), min(max(n, 60), 1800); got != want {
			t.Errorf("%d: %d, not %d", n, got, want)
		}
	}
}

func TestP22_7Body(t *testing.T) {
	const ahead, behind = `<e:propertyset xmlns:e="urn:schemas-upnp-org:event-1-0">`, `</e:propertyset>`
	for _, c := range []struct {
		vars []api.Arg
		want string
	}{
		{nil, ahead + behind},
		{[]api.Arg{}, ahead + behind},
		{args("A", "1"), ahead + "<e:property><A>1</A></e:property>" + behind},
		{args("A", ""), ahead + "<e:property><A></A></e:property>" + behind},
		{args("B", "2", "A", "1", "B", "2"), ahead + "<e:property><B>2</B></e:property><e:property><A>1</A></e:property><e:property><B>2</B></e:property>" + behind},
		{args("A", `<&>"'`+"\r\n\t"), ahead + "<e:property><A>&lt;&amp;&gt;&quot;'\r\n\t</A></e:property>" + behind},
		{args("A", "&amp;"), ahead + "<e:property><A>&amp;amp;</A></e:property>" + behind},
		{args("A", "\x00\xff\u00e4"), ahead + "<e:property><A>\x00\xff\u00e4</A></e:property>" + behind},
		{args("", ""), ahead + "<e:property><></></e:property>" + behind},
		{args("a<b", "c"), ahead + "<e:property><a<b>c</a<b></e:property>" + behind}, // Names stand as they are.
		{args("A", strings.Repeat("<", 10000)), ahead + "<e:property><A>" + strings.Repeat("&lt;", 10000) + "</A></e:property>" + behind},
	} {
		if got := string(gena.Body(c.vars)); got != c.want {
			t.Errorf("%.300q: %.300q, not %.300q", c.vars, got, c.want)
		}
	}
}

// What is told can be read as the XML of layer 17.
func TestP22_7BodyIsXML(t *testing.T) {
	vars := args("ExternalIPAddress", "203.0.113.5", "SystemUpdateID", "7", "PossibleConnectionTypes", `<a href="&">`)
	e, err := xml.Parse(gena.Body(vars))
	if err != api.OK || e.Name != "propertyset" || e.Space != "urn:schemas-upnp-org:event-1-0" || len(e.Kids) != len(vars) {
		t.Fatal(err, e)
	}
	for i, x := range e.Kids {
		if x.Name != "property" || x.Space != e.Space || len(x.Kids) != 1 || x.Kids[0].Name != vars[i].Name || x.Kids[0].Text != vars[i].Value {
			t.Errorf("%d: %v", i, x)
		}
	}
}

// What is handed in may be written over behind the call.
func TestP22_8NothingIsKept(t *testing.T) {
	s := gena.New(2)
	r := asks(a7, "timeout", "Second-100")
	_, f := s.Subscribe(r, a7, 0, [2]uint64{0, 1})
	clear(r.Fields)
	clear(f)
	is(t, "Subscribe", s, 1)
	vars := args("A", "1", "B", "1")
	told(t, "first", s, 0, vars, 1, 0, vars...)
	s.Done(sid(0, 1), true, 0)
	clear(vars)
	nobody(t, "as it was told", s, 1, args("A", "1", "B", "1"))
	told(t, "second", s, 1, args("A", "1", "B", "2"), 1, 1, args("B", "2")...)
	ends(t, "Subscribe", s, 100)
}

// What is handed in isn't changed, nor the room behind it.
func TestP22_8NothingIsChanged(t *testing.T) {
	s := gena.New(2)
	for _, r := range []api.Request{asks(a7), request("sid", sid(0, 1)), request("sid", sid(0, 1), "nt", "x"), asks(a8)} {
		r.Fields = append(make([]api.Field, 0, 9), r.Fields...)
		r.Fields[:9][8].Name = "behind"
		room := slices.Clone(r.Fields[:9])
		s.Subscribe(r, a7, 0, [2]uint64{0, 1})
		s.Unsubscribe(r, a8)
		if !slices.Equal(r.Fields[:9], room) {
			t.Errorf("%v", r.Fields[:9])
		}
	}
	vars := append(make([]api.Arg, 0, 9), args("A", "1", "B", "1", "C", "1")...)
	vars[:9][8].Name = "behind"
	s.Next(0, args("A", "1", "B", "2"))
	s.Done(sid(0, 1), true, 0)
	room := slices.Clone(vars[:9])
	told(t, "some", s, 1, vars, 1, 1, args("B", "1", "C", "1")...)
	gena.Body(vars)
	if !slices.Equal(vars[:9], room) {
		t.Errorf("%v", vars[:9])
	}
}

// Who writes over an answer, and the room behind it, changes nothing else.
func TestP22_8AnswersAreNew(t *testing.T) {
	s := gena.New(2)
	_, one := s.Subscribe(asks(a7), a7, 0, [2]uint64{0, 1})
	_, two := s.Subscribe(request("sid", sid(0, 1)), a7, 0, [2]uint64{})
	clear(one[:cap(one)])
	if !slices.Equal(two, fields(sid(0, 1), 1800)) {
		t.Errorf("Subscribe: %v", two)
	}
	subscribes(t, s, a8, 0, 2)
	x, _ := s.Next(0, args("A", "1"))
	y, _ := s.Next(0, args("A", "1"))
	clear(x.Body[:cap(x.Body)])
	if string(y.Body) != body(args("A", "1")...) {
		t.Errorf("Next: %q", y.Body)
	}
	b, c := gena.Body(args("A", "1")), gena.Body(args("A", "1"))
	clear(b[:cap(b)])
	if string(c) != body(args("A", "1")...) {
		t.Errorf("Body: %q", c)
	}
	if d := gena.Body(nil); string(d) != body() {
		t.Errorf("Body: %q", d)
	}
	is(t, "after all", s, 1, 2)
}
