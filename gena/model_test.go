package gena_test

import (
	"encoding/xml"
	"fmt"
	"math"
	"math/rand"
	"net/netip"
	"regexp"
	"slices"
	"strconv"
	"strings"
	"testing"

	"hearth/api"
	"hearth/gena"
)

// sub is a subscription of the model's.
type sub struct {
	sid    string
	host   api.Addr
	port   int
	target string
	seq    uint64
	ends   uint64
	told   bool
	again  uint64
	last   []api.Arg
}

// model does what the chapter says by going through all that there is, each time anew.
type model struct {
	most int
	all  []sub
}

var (
	callback = regexp.MustCompile(`^<http://([0-9.]{1,15})(:([0-9]{1,10}))?(/[!-;=?-~]{0,255})>`)
	timeout  = regexp.MustCompile(`^Second-([0-9]{1,7})$`)
)

// readCallback reads a CALLBACK by its form as a whole.
func readCallback(s string) (host api.Addr, port int, target string, ok bool) {
	m := callback.FindStringSubmatch(s)
	if m == nil {
		return 0, 0, "", false
	}
	a, err := netip.ParseAddr(m[1])
	port = 80
	if m[2] != "" {
		port, _ = strconv.Atoi(m[3])
	}
	if err != nil || port < 1 || port > 65535 {
		return 0, 0, "", false
	}
	for _, b := range a.As4() {
		host = host<<8 | api.Addr(b)
	}
	return host, port, m[4], true
}

func readSeconds(s string) uint64 {
	m := timeout.FindStringSubmatch(s)
	if m == nil {
		return 1800
	}
	n, _ := strconv.Atoi(m[1])
	if n < 60 {
		return 60
	}
	if n > 1800 {
		return 1800
	}
	return uint64(n)
}

// add gives a sum that stops.
func add(a, b uint64) uint64 {
	if a+b < a {
		return math.MaxUint64
	}
	return a + b
}

func of(r api.Request, name string) []string {
	var out []string
	for _, f := range r.Fields {
		if f.Name == name {
			out = append(out, f.Value)
		}
	}
	return out
}

// place gives the place of a host's subscription, -1 if there is none.
func (m *model) place(sid string, host api.Addr) int {
	return slices.IndexFunc(m.all, func(x sub) bool { return x.sid == sid && x.host == host })
}

func (m *model) remove(gone func(sub) bool) {
	var stay []sub
	for _, x := range m.all {
		if !gone(x) {
			stay = append(stay, x)
		}
	}
	m.all = stay
}

func (m *model) subscribe(r api.Request, who api.Addr, now uint64, draw [2]uint64) (int, []api.Field) {
	sids, nts, callbacks := of(r, "sid"), of(r, "nt"), of(r, "callback")
	seconds := uint64(1800)
	if list := of(r, "timeout"); len(list) > 0 {
		seconds = readSeconds(list[0])
	}
	if len(sids) > 0 {
		if len(sids) > 1 || len(nts) > 0 || len(callbacks) > 0 {
			return 400, nil
		}
		i := m.place(sids[0], who)
		if i < 0 {
			return 412, nil
		}
		m.all[i].ends = add(now, seconds)
		return 200, fields(sids[0], seconds)
	}
	if len(nts) != 1 || nts[0] != "upnp:event" || len(callbacks) != 1 {
		return 412, nil
	}
	host, port, target, ok := readCallback(callbacks[0])
	if !ok || host != who {
		return 412, nil
	}
	own := sid(draw[:]...)
	if len(m.all) >= m.most || slices.ContainsFunc(m.all, func(x sub) bool { return x.sid == own }) {
		return 503, nil
	}
	m.all = append(m.all, sub{sid: own, host: host, port: port, target: target, ends: add(now, seconds), again: now})
	return 200, fields(own, seconds)
}

func (m *model) unsubscribe(r api.Request, who api.Addr) int {
	sids := of(r, "sid")
	if len(sids) != 1 || len(of(r, "nt")) > 0 || len(of(r, "callback")) > 0 {
		return 400
	}
	if m.place(sids[0], who) < 0 {
		return 412
	}
	m.remove(func(x sub) bool { return x.sid == sids[0] })
	return 200
}

func (m *model) next(now uint64, vars []api.Arg) (api.Note, bool) {
	for i := range m.all {
		x := &m.all[i]
		if x.told || now < x.again || slices.Equal(x.last, vars) {
			continue
		}
		text := ""
		for _, a := range vars {
			if !slices.Contains(x.last, a) {
				text += "<e:property><" + a.Name + ">" + strings.NewReplacer("&", "&amp;", "<", "&lt;", ">", "&gt;", `"`, "&quot;").Replace(a.Value) + "</" + a.Name + "></e:property>"
			}
		}
		x.told, x.last = true, slices.Clone(vars)
		return api.Note{SID: x.sid, Seq: uint32(x.seq), Host: x.host, Port: uint16(x.port), Target: x.target, Body: []byte(`<e:propertyset xmlns:e="urn:schemas-upnp-org:event-1-0">` + text + `</e:propertyset>`)}, true
	}
	return api.Note{}, false
}

func (m *model) done(sid string, ok bool, now uint64) {
	i := slices.IndexFunc(m.all, func(x sub) bool { return x.sid == sid && x.told })
	if i < 0 {
		return
	}
	if !ok {
		m.remove(func(x sub) bool { return x.sid == sid })
		return
	}
	m.all[i].told, m.all[i].again = false, add(now, 1)
	m.all[i].seq++
}

func (m *model) drop(most int, right func(api.Addr) bool) {
	m.remove(func(x sub) bool { return !right(x.host) })
	m.most = max(most, 0)
	for len(m.all) > m.most {
		m.all = m.all[:len(m.all)-1]
	}
}

func oneOf[T interface{}](r *rand.Rand, all ...T) T { return all[r.Intn(len(all))] }

// run is subscriptions, and a model that is given the same.
type run struct {
	*rand.Rand
	s    *gena.Subs
	m    *model
	now  uint64
	vars []api.Arg
	went map[string]int // how often which answer was given
}

func begin(seed int64) *run {
	r := rand.New(rand.NewSource(seed))
	most := oneOf(r, 0, 1, 2, 4, 8, 8, 8)
	now := oneOf[uint64](r, 0, 0, 0, 1<<40, math.MaxUint64-3000)
	return &run{Rand: r, s: gena.New(most), m: &model{most: most}, now: now, went: map[string]int{}}
}

// sid gives one that is there, most often, and whose it is.
func (r *run) sid() (string, api.Addr) {
	if len(r.m.all) > 0 && r.Intn(5) > 0 {
		x := oneOf(r.Rand, r.m.all...)
		return x.sid, oneOf(r.Rand, x.host, x.host, x.host, x.host, a7)
	}
	return oneOf(r.Rand, sid(0, 1), sid(0, 99), "", "uuid:x"), oneOf[api.Addr](r.Rand, a7, a8)
}

func (r *run) timeout() string {
	return oneOf(r.Rand, "Second-300", "Second-60", "Second-5", "Second-90", "Second-1800", "Second-9999999", "Second-00000300", "second-300", "infinite", "")
}

// callback gives one that is right, most often.
func (r *run) callback(host api.Addr) string {
	s := "<http://" + address(host) + oneOf(r.Rand, "", ":80", ":49152", ":1", ":65535", ":0005") + oneOf(r.Rand, "/", "/e", "/e?1/:2", "/"+strings.Repeat("x", 255)) + ">" + oneOf(r.Rand, "", "", "<http://1.2.3.4/>", "\xff")
	if r.Intn(8) == 0 {
		i := r.Intn(len(s))
		s = s[:i] + oneOf(r.Rand, "", "<", ">", ":", "/", " ", "0", "65536", "\x7f", "~") + s[i+r.Intn(2):]
	}
	return s
}

// request gives one that asks for a subscription, or for one that is there, and who asks.
func (r *run) request(begins bool) (api.Request, api.Addr) {
	who := oneOf[api.Addr](r.Rand, a7, a8, a9)
	pairs := []string{"nt", "upnp:event", "callback", r.callback(who)}
	if !begins {
		var s string
		s, who = r.sid()
		pairs = []string{"sid", s}
	}
	for r.Intn(3) == 0 {
		pairs = append(pairs, oneOf(r.Rand, "timeout", "Timeout", "host"), r.timeout())
	}
	if r.Intn(12) == 0 {
		pairs = append(pairs, oneOf(r.Rand, "nt", "callback", "sid"), oneOf(r.Rand, "", "upnp:event", at(who), sid(0, 1)))
	}
	if r.Intn(12) == 0 {
		pairs = pairs[2:]
	}
	if r.Intn(12) == 0 {
		who = oneOf[api.Addr](r.Rand, a7, a8, 0)
	}
	x := request(pairs...)
	r.Shuffle(len(x.Fields), func(i, j int) { x.Fields[i], x.Fields[j] = x.Fields[j], x.Fields[i] })
	return x, who
}

// change changes the variables, at times.
func (r *run) change() {
	switch r.Intn(8) {
	case 0:
		r.vars = append(slices.Clone(r.vars), api.Arg{Name: oneOf(r.Rand, "A", "B", "C"), Value: oneOf(r.Rand, "1", "2", "<&>\"")})
	case 1:
		r.vars = slices.Clone(r.vars)
		r.Shuffle(len(r.vars), func(i, j int) { r.vars[i], r.vars[j] = r.vars[j], r.vars[i] })
	case 2, 3, 4:
		r.vars = slices.Clone(r.vars)
		if len(r.vars) > 0 {
			r.vars[r.Intn(len(r.vars))].Value = oneOf(r.Rand, "1", "2", "3", "")
		}
	case 5:
		if len(r.vars) > 0 && r.Intn(3) == 0 {
			r.vars = slices.Clone(r.vars[1:])
		}
	}
}

func telling(n api.Note, ok bool) string { return fmt.Sprint(ok, " ", show(n)) }

// step does one thing that is drawn, and gives what is answered, and what the model answers.
func (r *run) step() (name, got, want string) {
	r.now = add(r.now, oneOf[uint64](r.Rand, 0, 0, 0, 1, 1, 2, 30))
	now := r.now
	if r.Intn(12) == 0 {
		now = oneOf(r.Rand, now-min(now, 1), now-min(now, 100), now/2)
	}
	switch r.Intn(20) {
	case 0, 1, 2, 3, 4, 5:
		x, who := r.request(r.Intn(5) > 1)
		draw := [2]uint64{0, uint64(r.Intn(12))}
		status, f := r.s.Subscribe(x, who, now, draw)
		other, g := r.m.subscribe(x, who, now, draw)
		return "Subscribe", fmt.Sprint(status, f), fmt.Sprint(other, g)
	case 6:
		x, who := r.request(r.Intn(8) == 0)
		return "Unsubscribe", fmt.Sprint(r.s.Unsubscribe(x, who)), fmt.Sprint(r.m.unsubscribe(x, who))
	case 7, 8, 9, 10, 11:
		r.change()
		return "Next", telling(r.s.Next(now, r.vars)), telling(r.m.next(now, r.vars))
	case 12, 13, 14, 15, 16, 17:
		s, _ := r.sid()
		ok := r.Intn(8) > 0
		r.s.Done(s, ok, now)
		r.m.done(s, ok, now)
		return "Done", "", ""
	case 18:
		r.s.Expire(now)
		r.m.remove(func(x sub) bool { return x.ends <= now })
		return "Expire", "", ""
	}
	if r.Intn(3) > 0 {
		return "none", "", ""
	}
	most, wrong := oneOf(r.Rand, -1, 1, 3, 8, 8, 8, 8), oneOf[api.Addr](r.Rand, 0, 0, a7, a8, a9)
	right := func(a api.Addr) bool { return a != wrong }
	r.s.Drop(most, right)
	r.m.drop(most, right)
	return "Drop", "", ""
}

func TestP22_1To22_7Model(t *testing.T) {
	went := map[string]int{}
	for seed := range int64(500) {
		r := begin(seed)
		for i := range 300 {
			before := len(r.m.all)
			name, got, want := r.step()
			if got != want {
				t.Fatalf("seed %d, step %d: %s: %s, not %s", seed, i, name, got, want)
			}
			var sids []string
			for _, x := range r.m.all {
				sids = append(sids, x.sid)
			}
			if !slices.Equal(list(r.s), sids) || r.s.Len() != len(sids) {
				t.Fatalf("seed %d, step %d: %s: %q, %d, not %q", seed, i, name, list(r.s), r.s.Len(), sids)
			}
			went[strings.TrimSpace(name+" "+strings.SplitN(strings.Trim(got, "[]"), " ", 2)[0])]++
			if len(sids) < before {
				went[name+" takes"]++
			}
		}
	}
	for _, s := range []string{"Subscribe 200", "Subscribe 400", "Subscribe 412", "Subscribe 503", "Unsubscribe 200", "Unsubscribe 400", "Unsubscribe 412", "Next true", "Next false", "Done takes", "Expire takes", "Drop takes"} {
		if went[s] < 100 {
			t.Errorf("%s: only %d times: %v", s, went[s], went)
		}
	}
}

// What Callback and Seconds read of texts that are nearly right is what their forms as a whole say.
func TestP22_7Forms(t *testing.T) {
	r := begin(1)
	rights := 0
	for range 300000 {
		s := r.callback(oneOf[api.Addr](r.Rand, a7, 0, math.MaxUint32, 0x08080808))
		if r.Intn(3) == 0 {
			i := r.Intn(len(s) + 1)
			s = s[:i] + oneOf(r.Rand, ".", "9", "/", "<http://", ":8", "\t", "a") + s[i:]
		}
		host, port, target, ok := gena.Callback(s)
		h, p, g, k := readCallback(s)
		if host != h || int(port) != p || target != g || ok != k {
			t.Fatalf("%q: %x, %d, %q, %t, not %x, %d, %q, %t", s, uint32(host), port, target, ok, uint32(h), p, g, k)
		}
		if ok {
			rights++
		}
		text := r.timeout()
		i := r.Intn(len(text) + 1)
		text = text[:i] + oneOf(r.Rand, "", "0", "9", "-", "S", " ", "1234567") + text[i:]
		if got, want := gena.Seconds(text), readSeconds(text); got != want {
			t.Fatalf("%q: %d, not %d", text, got, want)
		}
	}
	if rights < 100000 || rights > 280000 {
		t.Error(rights)
	}
}

func TestP2Runs(t *testing.T) {
	drive := func(seed int64) string {
		r, out := begin(seed), ""
		for range 300 {
			name, got, _ := r.step()
			out += name + " " + got + " " + fmt.Sprint(list(r.s)) + "\n"
		}
		return out
	}
	for seed := range int64(20) {
		if one, two := drive(seed), drive(seed); one != two {
			t.Fatalf("seed %d: two runs differ:\n%s\n%s", seed, one, two)
		}
	}
}

// wild gives any bytes.
func wild(r *rand.Rand) string {
	b := make([]byte, r.Intn(1<<uint(r.Intn(9))))
	r.Read(b)
	return string(b)
}

// P1: no call panics, whatever it is given.
func TestP1Wild(t *testing.T) {
	for seed := range int64(300) {
		r := rand.New(rand.NewSource(seed))
		most := oneOf(r, math.MinInt, -1, 0, 3, math.MaxInt)
		s := gena.New(most)
		for range 200 {
			who := oneOf[api.Addr](r, a7, 0, api.Addr(r.Uint32()))
			x := oneOf(r, asks(who), request(), request("sid", sid(0, uint64(r.Intn(3)))))
			for range r.Intn(3) {
				x.Fields = append(x.Fields, api.Field{Name: oneOf(r, "sid", "nt", "callback", "timeout", "", wild(r)), Value: wild(r)})
			}
			now := oneOf(r, 0, math.MaxUint64, r.Uint64())
			status, f := s.Subscribe(x, who, now, [2]uint64{0, uint64(r.Intn(5))})
			if (status == 200) != (len(f) == 2) {
				t.Fatal(status, f)
			}
			n, ok := s.Next(oneOf(r, now, math.MaxUint64), []api.Arg{{Name: wild(r), Value: wild(r)}, {}})
			if ok != (n.SID != "") {
				t.Fatal(show(n), ok)
			}
			s.Done(oneOf(r, n.SID, wild(r), sid(0, 1)), r.Intn(2) == 0, now)
			switch r.Intn(9) {
			case 0:
				s.Unsubscribe(x, who)
			case 1:
				s.Expire(r.Uint64())
			case 2:
				most = oneOf(r, math.MinInt, -1, 0, 1, 3, math.MaxInt)
				s.Drop(most, func(api.Addr) bool { return r.Intn(5) > 0 })
			}
			if s.Len() > max(most, 0) || s.Len() != len(list(s)) {
				t.Fatalf("%d of %d", s.Len(), most)
			}
			gena.Callback(wild(r))
			gena.Callback("<http://" + wild(r) + "/" + wild(r) + ">")
			gena.Seconds("Second-" + wild(r))
			gena.Body([]api.Arg{{Name: wild(r), Value: wild(r)}})
		}
	}
}

// listener is a subscriber that keeps what it was told.
type listener struct {
	host  api.Addr
	sid   string
	seq   uint32
	told  map[string]string
	done  uint64 // when it answers what it is told now
	busy  bool
	since uint64 // from when on it must know
	ends  uint64
}

// propertyset is a note's body.
type propertyset struct {
	Properties []struct {
		Inner []struct {
			XMLName xml.Name
			Text    string `xml:",chardata"`
		} `xml:",any"`
	} `xml:"property"`
}

// hears takes a note.
func (l *listener) hears(t *testing.T, n api.Note) {
	t.Helper()
	var p propertyset
	if err := xml.Unmarshal(n.Body, &p); err != nil {
		t.Fatal(err)
	}
	if n.Seq != l.seq || l.busy || n.Host != l.host {
		t.Fatalf("%s, not Seq %d", show(n), l.seq)
	}
	l.seq++
	for _, x := range p.Properties {
		l.told[x.Inner[0].XMLName.Local] = x.Inner[0].Text
	}
}

// house is some listeners, and what they are to be told.
type house struct {
	*rand.Rand
	s    *gena.Subs
	all  []*listener
	vars []api.Arg
}

// second lets one second be.
func (h *house) second(t *testing.T, now uint64) {
	t.Helper()
	for _, l := range h.all {
		if l.busy && l.done <= now {
			h.s.Done(l.sid, true, now)
			l.busy, l.since = false, now+1
		}
		if now+uint64(h.Intn(40)) >= l.ends-1 {
			seconds := uint64(60 + h.Intn(100))
			if status, _ := h.s.Subscribe(request("sid", l.sid, "timeout", fmt.Sprint("Second-", seconds)), l.host, now, [2]uint64{}); status != 200 {
				t.Fatal(status)
			}
			l.ends = now + seconds
		}
	}
	h.s.Expire(now)
	for {
		n, ok := h.s.Next(now, h.vars)
		if !ok {
			break
		}
		l := h.all[slices.IndexFunc(h.all, func(l *listener) bool { return l.sid == n.SID })]
		l.hears(t, n)
		l.busy, l.done = true, now+uint64(h.Intn(4))
	}
}

// knows tells whether a listener knows just the variables.
func (l *listener) knows(vars []api.Arg) bool {
	for _, a := range vars {
		if l.told[a.Name] != a.Value {
			return false
		}
	}
	return len(l.told) == len(vars)
}

func TestP22_8AllIsTold(t *testing.T) {
	for seed := range int64(40) {
		h := &house{Rand: rand.New(rand.NewSource(seed)), s: gena.New(3), vars: args("A", "0", "B", "0", "C", "<&>")}
		for i, host := range []api.Addr{a7, a8, a7} {
			_, f := h.s.Subscribe(asks(host, "timeout", "Second-60"), host, 0, [2]uint64{7, uint64(i)})
			h.all = append(h.all, &listener{host: host, sid: f[0].Value, told: map[string]string{}, ends: 60})
		}
		for now := range uint64(1000) {
			for now < 990 && h.Intn(3) == 0 {
				h.vars[h.Intn(3)].Value = oneOf(h.Rand, "0", "1", "2", `"`)
			}
			h.second(t, now)
			for i, l := range h.all {
				// It was told by the second behind that at which the note ahead was done.
				if !l.busy && l.since <= now && !l.knows(h.vars) {
					t.Fatalf("seed %d, %d: %d was told %v, not %v", seed, now, i, l.told, h.vars)
				}
			}
		}
		for i, l := range h.all {
			if l.seq < 100 || !l.knows(h.vars) {
				t.Errorf("seed %d: %d was told %v of %v, %d times", seed, i, l.told, h.vars, l.seq)
			}
		}
		if h.s.Len() != 3 {
			t.Errorf("seed %d: %d", seed, h.s.Len())
		}
	}
}
