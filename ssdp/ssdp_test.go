package ssdp_test

import (
	"bytes"
	"fmt"
	"math"
	"math/rand"
	"regexp"
	"slices"
	"strconv"
	"strings"
	"testing"

	"hearth/api"
	"hearth/http"
	"hearth/ssdp"
)

// The signatures that the chapter lists.
var (
	_ func(api.Config, []byte) [][]byte                = ssdp.Search
	_ func(api.Config) [][]byte                        = ssdp.Alive
	_ func(api.Config) [][]byte                        = ssdp.Bye
	_ func(api.Config) func(func(string, string) bool) = ssdp.Names
)

const uuid = "00000000-1111-2222-3333-444444444444"

// config gives a configuration that is right.
func config() api.Config {
	return api.Config{
		LanMAC: api.MAC{2, 0, 0, 0, 0, 1}, WanMAC: api.MAC{2, 0, 0, 0, 1, 1}, HopMAC: api.MAC{2, 0, 0, 0, 1, 2},
		LanAddr: 0xc0a80101, LanBits: 24, WanAddr: 0xcb007105,
		MaxSessions: 4, MaxMaps: 2, MaxConns: 3, MaxSubs: 2, UUID: uuid,
	}
}

// known is the names with their unique names, in the chapter's order.
var known = [][2]string{
	{"upnp:rootdevice", "uuid:00000000-1111-2222-3333-444444444444::upnp:rootdevice"},
	{"uuid:00000000-1111-2222-3333-444444444444", "uuid:00000000-1111-2222-3333-444444444444"},
	{"urn:schemas-upnp-org:device:InternetGatewayDevice:1", "uuid:00000000-1111-2222-3333-444444444444::urn:schemas-upnp-org:device:InternetGatewayDevice:1"},
	{"urn:schemas-upnp-org:device:InternetGatewayDevice:2", "uuid:00000000-1111-2222-3333-444444444444::urn:schemas-upnp-org:device:InternetGatewayDevice:2"},
	{"urn:schemas-upnp-org:service:WANIPConnection:1", "uuid:00000000-1111-2222-3333-444444444444::urn:schemas-upnp-org:service:WANIPConnection:1"},
	{"urn:schemas-upnp-org:service:WANIPConnection:2", "uuid:00000000-1111-2222-3333-444444444444::urn:schemas-upnp-org:service:WANIPConnection:2"},
}

// lines gives a text of lines, the last one empty.
func lines(list ...string) string { return strings.Join(append(list, "", ""), "\r\n") }

// ask gives a search that is right.
func ask(st string) string {
	return lines("M-SEARCH * HTTP/1.1", "HOST: 239.255.255.250:1900", `MAN: "ssdp:discover"`, "MX: 2", "ST: "+st)
}

// answer gives what is answered of a name.
func answer(name [2]string) string {
	return lines("HTTP/1.1 200 OK", "CACHE-CONTROL: max-age=1800", "EXT:", "LOCATION: http://192.168.1.1:5000/desc.xml", "SERVER: hearth/1 UPnP/1.1 hearth/1", "ST: "+name[0], "USN: "+name[1])
}

// answers gives what is answered of all names.
func answers() []string {
	var out []string
	for _, name := range known {
		out = append(out, answer(name))
	}
	return out
}

func texts(list [][]byte) []string {
	var out []string
	for _, b := range list {
		out = append(out, string(b))
	}
	return out
}

// finds wants a search to be answered with just these texts.
func finds(t *testing.T, name, text string, want ...string) {
	t.Helper()
	if got := texts(ssdp.Search(config(), []byte(text))); !slices.Equal(got, want) {
		t.Errorf("%s: %.300q: %.300q, not %.300q", name, text, got, want)
	}
}

func TestP23_1Search(t *testing.T) {
	for _, name := range known {
		finds(t, "one", ask(name[0]), answer(name))
	}
	finds(t, "all", ask("ssdp:all"), answers()...)
}

func TestP23_1OtherNames(t *testing.T) {
	for _, st := range []string{
		"", "x", "*", "urn:x", "upnp:rootdevices", "upnp:rootdevic", "UPNP:rootdevice", "upnp:Rootdevice", `"upnp:rootdevice"`, "ssdp:ALL", "ssdp:al", "ssdp:all,upnp:rootdevice", "upnp:rootdevice upnp:rootdevice",
		"uuid:", uuid, "UUID:" + uuid, "uuid:" + uuid + "::", "uuid:" + uuid + "0", "uuid:" + uuid[:35], "uuid:00000000-1111-2222-3333-444444444445", known[0][1], known[5][1],
		"urn:schemas-upnp-org:device:InternetGatewayDevice", "urn:schemas-upnp-org:device:InternetGatewayDevice:", "urn:schemas-upnp-org:device:InternetGatewayDevice:0", "urn:schemas-upnp-org:device:InternetGatewayDevice:3", "urn:schemas-upnp-org:device:InternetGatewayDevice:12", "urn:schemas-upnp-org:device:InternetGatewayDevice:01",
		"urn:schemas-upnp-org:service:WANIPConnection", "urn:schemas-upnp-org:service:WANIPConnection:3", "urn:schemas-upnp-org:service:InternetGatewayDevice:1", "urn:schemas-upnp-org:device:WANIPConnection:1", "urn:schemas-upnp-org:service:WANPPPConnection:1", "urn:schemas-upnp-org:device:WANDevice:1",
	} {
		finds(t, "none", ask(st))
	}
}

// rest is the lines of a search but the first one.
var rest = []string{`man: "ssdp:discover"`, "st: upnp:rootdevice", "mx: 1"}

// with gives a search with another first line, and others behind all.
func with(first string, more ...string) string {
	return lines(append(append([]string{first}, rest...), more...)...)
}

// by gives a search whose lines but the first one are these.
func by(list ...string) string {
	return lines(append([]string{"M-SEARCH * HTTP/1.1"}, list...)...)
}

func TestP23_1Right(t *testing.T) {
	const man, st, mx = `man: "ssdp:discover"`, "st: upnp:rootdevice", "mx: 1"
	one := answer(known[0])
	for name, text := range map[string]string{
		"no host":            by(man, st, mx),
		"another order":      by(mx, st, man),
		"great letters":      by(`MAN: "ssdp:discover"`, "ST: upnp:rootdevice", "MX: 1"),
		"mixed letters":      by(`mAn: "ssdp:discover"`, "sT: upnp:rootdevice", "Mx: 1"),
		"no blanks":          by(`man:"ssdp:discover"`, "st:upnp:rootdevice", "mx:1"),
		"blanks and tabs":    by("man: \t \"ssdp:discover\"\t ", "st:\tupnp:rootdevice\t", "mx:  1  "),
		"others":             by("host: a", man, "user-agent: x/1 UPnP/1.1 y/2", st, "cpfn.upnp.org: \xff\u00e4", mx, "a:"),
		"several others":     by(man, "host: a", st, "host: b", mx, "host: a", "man2: x", "st2: x", "xmx: 9"),
		"no number of hosts": by(man, st, mx, "content-length: 100", "transfer-encoding: x"),
		"many fields":        by(append([]string{man, st, mx}, strings.Fields(strings.Repeat("a:b ", 100))...)...),
	} {
		finds(t, name, text, one)
	}
	for _, mx := range []string{"1", "2", "5", "120", "9999999", "0000001", "0100000", "10"} {
		finds(t, "mx "+mx, by(man, st, "mx: "+mx), one)
	}
}

func TestP23_1Wrong(t *testing.T) {
	const first, man, st, mx = "M-SEARCH * HTTP/1.1", `man: "ssdp:discover"`, "st: upnp:rootdevice", "mx: 1"
	right := by(man, st, mx)
	finds(t, "right", right, answer(known[0]))
	for name, list := range map[string][]string{
		"first lines": {
			with(""), with("M-SEARCH"), with("M-SEARCH *"), with("M-SEARCH * "), with("* HTTP/1.1"), with("M-SEARCH  * HTTP/1.1"), with("M-SEARCH *  HTTP/1.1"), with(" M-SEARCH * HTTP/1.1"), with("M-SEARCH * HTTP/1.1 "), with("M-SEARCH\t* HTTP/1.1"),
			with("M-SEARCH * HTTP/1.0"), with("M-SEARCH * HTTP/1.2"), with("M-SEARCH * HTTP/2"), with("M-SEARCH * http/1.1"), with("M-SEARCH * HTTP/1.10"),
			with("M-Search * HTTP/1.1"), with("m-search * HTTP/1.1"), with("MSEARCH * HTTP/1.1"), with("NOTIFY * HTTP/1.1"), with("GET * HTTP/1.1"), with("GET / HTTP/1.1"),
			with("M-SEARCH / HTTP/1.1"), with("M-SEARCH ** HTTP/1.1"), with("M-SEARCH /* HTTP/1.1"), with("HTTP/1.1 200 OK"), with("M-SEARCH * HTTP/1.1\r"), with("a: b\r\n" + first),
		},
		"man": {
			by(st, mx), by(man, man, st, mx), by(man, st, mx, "man: x"), by(man, st, mx, "MAN:"), by("man:", st, mx), by("man: ssdp:discover", st, mx), by("man: 'ssdp:discover'", st, mx), by(`man: "ssdp:discover`, st, mx), by(`man: "SSDP:discover"`, st, mx), by(`man: "ssdp: discover"`, st, mx), by(`man: "ssdp:alive"`, st, mx), by(`man: ""ssdp:discover""`, st, mx), by(`man: "ssdp:discover"; ns=01`, st, mx),
		},
		"st": {
			by(man, mx), by(man, st, st, mx), by(man, st, mx, "st: ssdp:all"), by(man, "st: ssdp:all", mx, "St:"), by(man, "st:", mx), by(man, "st: ", mx), by(man, "nt: upnp:rootdevice", mx),
		},
		"mx": {
			by(man, st), by(man, st, mx, mx), by(man, st, mx, "mx: 0"), by(man, st, mx, "MX:"), by(man, st, "mx:"), by(man, st, "mx: 0"), by(man, st, "mx: 00"), by(man, st, "mx: 0000000"), by(man, st, "mx: -1"), by(man, st, "mx: +1"), by(man, st, "mx: 1.0"), by(man, st, "mx: 1 s"), by(man, st, "mx: x"), by(man, st, "mx: a"), by(man, st, "mx: 0x1"), by(man, st, "mx: 1_0"), by(man, st, "mx: \u0661"),
			by(man, st, "mx: 00000001"), by(man, st, "mx: 10000000"), by(man, st, "mx: 18446744073709551617"),
		},
		"lines": {
			by(man, st, mx, "bad"), by(man, st, mx, ":"), by(man, st, mx, ": x"), by(man, st, mx, " a: b"), by(man, st, mx, "a : b"), by("bad", man, st, mx), by(man, st, mx, "a: \x00"), by(man, st, mx, "a: \x7f"), by(man, st, mx, "a: b\r"), by(man, st, mx, "a: b\nc: d"), by(man, st, mx, "a: b\rc: d"), by(man, st, mx, "\xff: a"), by(man, st, mx, strings.Repeat("a", 65)+": b"), by(man, st, mx+"\x1f"),
			by(man, "", st, mx), by("", man, st, mx), by(man, st, mx, ""), by(man, st, mx, "", ""), by(man, st, mx, " "), by(man, st, "mx: 1\r\n "), by(man, "st :upnp:rootdevice", mx),
		},
		"ends": {
			"", "\r\n", "\r\n\r\n", "\n", "x", first, first + "\r\n", first + "\r\n\r\n", right + "x", right + " ", right + "\r\n", right + "\n", right + "\x00", right + right, "\r\n" + right, "\n" + right, " " + right, "x" + right, "\ufeff" + right,
			strings.ReplaceAll(right, "\r\n", "\n"), strings.ReplaceAll(right, "\r\n", "\r"), strings.ReplaceAll(right, "\r\n", "\n\r"), strings.Replace(right, "\r\n", "\n", 1), strings.TrimSuffix(right, "\r\n") + "\n", strings.TrimSuffix(right, "\r\n\r\n") + "\n\r\n", strings.TrimSuffix(right, "\r\n\r\n") + "\n\n", strings.TrimSuffix(right, "\r\n") + "\r", strings.TrimSuffix(right, "\r\n"),
		},
	} {
		for _, text := range list {
			finds(t, name, text)
		}
	}
	for i := range len(right) {
		finds(t, "a beginning", right[:i])
		if i > 0 {
			finds(t, "an end", right[i:])
		}
	}
}

func TestP23_1Long(t *testing.T) {
	for size, want := range map[int]bool{200: true, 1023: true, 1024: true, 1025: false, 1026: false, 2048: false, 70000: false} {
		for _, text := range []string{by(append(slices.Clone(rest), "a: ")...), by(append([]string{"a: "}, rest...)...)} {
			text = strings.Replace(text, "a: ", "a: "+strings.Repeat("x", size-len(text)), 1)
			if got := ssdp.Search(config(), []byte(text)); len(text) != size || (len(got) == 1) != want {
				t.Errorf("%d: %d, %d", size, len(text), len(got))
			}
		}
	}
}

// The place and the names are those of the configuration; the rest of it plays no part.
func TestP23_1Config(t *testing.T) {
	c := api.Config{LanAddr: 0x0a00fe01, UUID: "89abcdef-0000-0000-0000-0123456789ab"}
	want := strings.NewReplacer("192.168.1.1", "10.0.254.1", uuid, c.UUID)
	for _, name := range known {
		got := texts(ssdp.Search(c, []byte(want.Replace(ask(name[0])))))
		if !slices.Equal(got, []string{want.Replace(answer(name))}) {
			t.Errorf("%q", got)
		}
	}
	if got := ssdp.Search(c, []byte(ask("uuid:"+uuid))); len(got) != 0 {
		t.Errorf("%q", texts(got))
	}
	for i, b := range ssdp.Alive(c) {
		if w := want.Replace(alive(known[i])); string(b) != w {
			t.Errorf("%q, not %q", b, w)
		}
	}
	for i, b := range ssdp.Bye(c) {
		if w := want.Replace(bye(known[i])); string(b) != w {
			t.Errorf("%q, not %q", b, w)
		}
	}
}

// What is answered is a response that layer 16 can read.
func TestP23_1Status(t *testing.T) {
	for _, b := range ssdp.Search(config(), []byte(ask("ssdp:all"))) {
		if n, more := http.Status(b); n != 200 || more {
			t.Errorf("%q: %d, %t", b, n, more)
		}
	}
}

func alive(name [2]string) string {
	return lines("NOTIFY * HTTP/1.1", "HOST: 239.255.255.250:1900", "CACHE-CONTROL: max-age=1800", "LOCATION: http://192.168.1.1:5000/desc.xml", "NT: "+name[0], "NTS: ssdp:alive", "SERVER: hearth/1 UPnP/1.1 hearth/1", "USN: "+name[1])
}

func bye(name [2]string) string {
	return lines("NOTIFY * HTTP/1.1", "HOST: 239.255.255.250:1900", "NT: "+name[0], "NTS: ssdp:byebye", "USN: "+name[1])
}

func TestP23_2Alive(t *testing.T) {
	var want []string
	for _, name := range known {
		want = append(want, alive(name))
	}
	if got := texts(ssdp.Alive(config())); !slices.Equal(got, want) {
		t.Errorf("%q, not %q", got, want)
	}
}

func TestP23_2Bye(t *testing.T) {
	var want []string
	for _, name := range known {
		want = append(want, bye(name))
	}
	if got := texts(ssdp.Bye(config())); !slices.Equal(got, want) {
		t.Errorf("%q, not %q", got, want)
	}
}

func TestP23_2Names(t *testing.T) {
	through := ssdp.Names(config())
	for range 2 { // As often as one likes.
		var got [][2]string
		for name, unique := range through {
			got = append(got, [2]string{name, unique})
		}
		if !slices.Equal(got, known) {
			t.Errorf("%q, not %q", got, known)
		}
	}
	for most := range len(known) {
		var got [][2]string
		through(func(name, unique string) bool {
			got = append(got, [2]string{name, unique})
			return len(got) <= most
		})
		if !slices.Equal(got, known[:most+1]) {
			t.Errorf("%d: %q", most, got)
		}
	}
}

func TestP23_2NamesOfAnyUUID(t *testing.T) {
	for _, s := range []string{"", "a", "::", "\x00\xff", strings.Repeat("u", 70000)} {
		var got [][2]string
		for name, unique := range ssdp.Names(api.Config{UUID: s}) {
			got = append(got, [2]string{name, unique})
		}
		if len(got) != 6 || got[0] != [2]string{"upnp:rootdevice", "uuid:" + s + "::upnp:rootdevice"} || got[1] != [2]string{"uuid:" + s, "uuid:" + s} || got[5][1] != "uuid:"+s+"::"+known[5][0] {
			t.Errorf("%.300q", got)
		}
	}
}

func TestP23_3HandedIn(t *testing.T) {
	c := config()
	c.Forwards = make([]api.Forward, 1, 3)
	room := slices.Clone(c.Forwards[:3])
	text := append(make([]byte, 0, 2000), ask("ssdp:all")...)
	whole := bytes.Clone(text[:2000])
	got := ssdp.Search(c, text)
	if !bytes.Equal(text[:2000], whole) {
		t.Errorf("%q", text[:2000])
	}
	clear(text[:2000])
	if !slices.Equal(texts(got), answers()) {
		t.Errorf("%q", texts(got))
	}
	ssdp.Alive(c)
	ssdp.Bye(c)
	for range ssdp.Names(c) {
	}
	if !slices.Equal(c.Forwards[:3], room) {
		t.Errorf("%v", c.Forwards[:3])
	}
}

// Who writes over an answer, and the room behind it, changes no other one.
func TestP23_3AnswersAreNew(t *testing.T) {
	for name, f := range map[string]func() [][]byte{
		"Search": func() [][]byte { return ssdp.Search(config(), []byte(ask("ssdp:all"))) },
		"Alive":  func() [][]byte { return ssdp.Alive(config()) },
		"Bye":    func() [][]byte { return ssdp.Bye(config()) },
	} {
		one, two := f(), f()
		want := texts(two)
		for i, b := range one {
			clear(b[:cap(b)])
			if got := texts(one[i+1:]); !slices.Equal(got, want[i+1:]) {
				t.Errorf("%s: %q, not %q", name, got, want[i+1:])
			}
		}
		clear(one[:cap(one)])
		if got := texts(two); !slices.Equal(got, want) {
			t.Errorf("%s: %q, not %q", name, got, want)
		}
		if got := texts(f()); !slices.Equal(got, want) {
			t.Errorf("%s: %q, not %q", name, got, want)
		}
	}
}

var (
	form  = regexp.MustCompile(`(?s)^M-SEARCH \* HTTP/1\.1\r\n(.*)\r\n$`)
	field = regexp.MustCompile("^([-A-Za-z0-9!#$%&'*+.^_`|~]{1,64}):[ \\t]*((?:[^\\x00-\\x08\\x0a-\\x1f\\x7f]*[^\\x00-\\x20\\x7f])?)[ \\t]*$")
)

// wanted reads a search by its form as a whole: how many answers it is to have.
func wanted(text string) int {
	m := form.FindStringSubmatch(text)
	if len(text) > 1024 || m == nil {
		return 0
	}
	values, rest := map[string][]string{}, m[1]
	for rest != "" {
		line, behind, found := strings.Cut(rest, "\r\n")
		f := field.FindStringSubmatch(line)
		if !found || f == nil {
			return 0
		}
		values[strings.ToLower(f[1])] = append(values[strings.ToLower(f[1])], f[2])
		rest = behind
	}
	if len(values["man"]) != 1 || len(values["st"]) != 1 || len(values["mx"]) != 1 || values["man"][0] != `"ssdp:discover"` {
		return 0
	}
	mx := values["mx"][0]
	if n, err := strconv.ParseUint(mx, 10, 64); err != nil || n == 0 || len(mx) > 7 {
		return 0
	}
	if values["st"][0] == "ssdp:all" {
		return len(known)
	}
	return len(slices.DeleteFunc(slices.Clone(known), func(name [2]string) bool { return name[0] != values["st"][0] }))
}

func oneOf[T interface{}](r *rand.Rand, all ...T) T { return all[r.Intn(len(all))] }

// some gives a search that is right, or nearly.
func some(r *rand.Rand) string {
	list := []string{oneOf(r, "MAN", "man") + `:"ssdp:discover"`, "MX: " + oneOf(r, "1", "3", "0", "0000009", "12345678"), "ST: " + oneOf(r, known...)[0], "ST: ssdp:all", "Host: a", "x:"}
	if r.Intn(2) == 0 {
		list = slices.Delete(list, 3, 4)
	} else {
		list = slices.Delete(list, 2, 3)
	}
	r.Shuffle(len(list), func(i, j int) { list[i], list[j] = list[j], list[i] })
	if r.Intn(5) == 0 {
		list = list[1:]
	}
	if r.Intn(5) == 0 {
		list = append(list, list[0])
	}
	s := by(list...)
	for r.Intn(2) == 0 {
		i := r.Intn(len(s) + 1)
		s = s[:i] + oneOf(r, "", "\r", "\n", "\r\n", " ", "\t", ":", "0", "\x00", "\xff", "s", "a: b\r\n") + s[min(i+r.Intn(2), len(s)):]
	}
	return s
}

func TestP23_1ByTheForm(t *testing.T) {
	r, met := rand.New(rand.NewSource(1)), map[int]int{}
	for range 300000 {
		s := some(r)
		got, want := len(ssdp.Search(config(), []byte(s))), wanted(s)
		if got != want {
			t.Fatalf("%q: %d, not %d", s, got, want)
		}
		met[want]++
	}
	if met[0] < 50000 || met[1] < 20000 || met[6] < 20000 {
		t.Error(met)
	}
}

func TestP2Runs(t *testing.T) {
	drive := func(seed int64) string {
		r, out := rand.New(rand.NewSource(seed)), ""
		for range 300 {
			out += fmt.Sprintf("%q", ssdp.Search(config(), []byte(some(r))))
		}
		return out + fmt.Sprintf("%q%q", ssdp.Alive(config()), ssdp.Bye(config()))
	}
	for seed := range int64(10) {
		if one, two := drive(seed), drive(seed); one != two {
			t.Fatalf("seed %d: two runs differ:\n%s\n%s", seed, one, two)
		}
	}
}

// P1: no call panics, whatever it is given.
func TestP1Wild(t *testing.T) {
	wild := func(r *rand.Rand) []byte {
		b := make([]byte, r.Intn(1<<uint(r.Intn(12))))
		r.Read(b)
		return b
	}
	for seed := range int64(3000) {
		r := rand.New(rand.NewSource(seed))
		c := api.Config{LanAddr: oneOf(r, 0, math.MaxUint32, api.Addr(r.Uint32())), LanBits: oneOf(r, math.MinInt, -1, 33, math.MaxInt), UUID: string(wild(r))}
		if got := ssdp.Search(c, wild(r)); len(got) != 0 {
			t.Errorf("%q", got)
		}
		ssdp.Search(c, []byte(by(string(wild(r)))))
		ssdp.Search(c, []byte(ask(string(wild(r)))))
		if got := ssdp.Search(c, []byte(ask("ssdp:all"))); len(got) != 6 {
			t.Errorf("%q", got)
		}
		if a, b := ssdp.Alive(c), ssdp.Bye(c); len(a) != 6 || len(b) != 6 {
			t.Errorf("%q, %q", a, b)
		}
	}
	ssdp.Search(api.Config{}, nil)
	ssdp.Alive(api.Config{})
	ssdp.Bye(api.Config{})
}
