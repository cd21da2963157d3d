package desk_test

import (
	"bytes"
	"fmt"
	"math"
	"slices"
	"strings"
	"testing"

	"hearth/api"
	"hearth/desk"
	"hearth/gena"
	"hearth/igd"
	"hearth/maps"
	"hearth/soap"
	"hearth/xml"
)

// The signatures that the chapter lists.
var (
	_ func(api.Config) *desk.Desk                                                  = desk.New
	_ func(*desk.Desk, api.Parsed, api.Addr, uint64, [2]uint64) (b []byte, k bool) = (*desk.Desk).Answer
	_ func(*desk.Desk, api.Config)                                                 = (*desk.Desk).Configure
	_ func(*desk.Desk, uint64)                                                     = (*desk.Desk).Expire
	_ func(*desk.Desk) []api.Arg                                                   = (*desk.Desk).Vars
	_ func(api.Note) []byte                                                        = desk.Tell

	_ = desk.Desk{Maps: (*maps.Set)(nil), Subs: (*gena.Subs)(nil)}
)

const (
	gate = 0xc0a80101
	a7   = 0xc0a80107
	a8   = 0xc0a80108
	a9   = 0xc0a80109

	last = math.MaxUint64

	service = "urn:schemas-upnp-org:service:WANIPConnection:2"
	uuid    = "00000000-1111-2222-3333-444444444444"

	control = "/ctl/ipc"
	events  = "/evt/ipc"
)

// config gives a configuration that is right, with room for two subscriptions and so many mappings.
func config(most int, forwards ...api.Forward) api.Config {
	return api.Config{
		LanMAC: api.MAC{2, 0, 0, 0, 0, 1}, WanMAC: api.MAC{2, 0, 0, 0, 1, 1}, HopMAC: api.MAC{2, 0, 0, 0, 1, 2},
		LanAddr: gate, LanBits: 24, WanAddr: 0xcb007105,
		MaxSessions: 4, MaxMaps: most, MaxConns: 3, MaxSubs: 2,
		Forwards: forwards, UUID: uuid,
	}
}

// elsewhere gives a configuration with the LAN 10.0.0.0, where none of the others' hosts is.
func elsewhere() api.Config {
	c := config(3)
	c.LanAddr, c.LanBits, c.WanAddr, c.UUID = 0x0a000001, 8, 0x08080404, "ffffffff-1111-2222-3333-444444444444"
	return c
}

// fields gives fields of these names, each with its value behind it.
func fields(pairs ...string) []api.Field {
	var out []api.Field
	for p := range slices.Chunk(pairs, 2) {
		out = append(out, api.Field{Name: p[0], Value: p[1]})
	}
	return out
}

// args gives arguments of their names, each with its value behind it.
func args(pairs ...string) []api.Arg {
	var out []api.Arg
	for p := range slices.Chunk(pairs, 2) {
		out = append(out, api.Arg{Name: p[0], Value: p[1]})
	}
	return out
}

// request gives one that keeps the connection.
func request(method, target string, pairs ...string) api.Request {
	return api.Request{Method: method, Target: target, Minor: 1, Fields: fields(pairs...), Keep: true}
}

// header gives the SOAPACTION of an action.
func header(action string) string { return `"` + service + "#" + action + `"` }

// space is that of envelopes.
const space = "http://schemas.xmlsoap.org/soap/envelope/"

// enveloped gives an envelope with that in its Body, as layer 18 writes it.
func enveloped(s string) string {
	return `<Envelope xmlns="` + space + `" xmlns:p0="` + space + `" p0:encodingStyle="http://schemas.xmlsoap.org/soap/encoding/"><Body xmlns="` + space + `">` + s + `</Body></Envelope>`
}

// called gives the envelope of a call with these arguments, or of an answer.
func called(action string, pairs ...string) string {
	s := "<" + action + ` xmlns="` + service + `">`
	for _, a := range args(pairs...) {
		s += "<" + a.Name + ` xmlns="">` + xml.Escape(a.Value) + "</" + a.Name + ">"
	}
	return enveloped(s + "</" + action + ">")
}

// faulted gives the envelope of an error.
func faulted(code int, words string) string {
	const control = "urn:schemas-upnp-org:control-1-0"
	return enveloped(fmt.Sprintf(`<Fault xmlns="%s"><faultcode xmlns="">s:Client</faultcode><faultstring xmlns="">UPnPError</faultstring><detail xmlns=""><UPnPError xmlns="%s"><errorCode xmlns="%s">%d</errorCode><errorDescription xmlns="%s">%s</errorDescription></UPnPError></detail></Fault>`,
		space, control, control, code, control, words))
}

// calls gives a right request for an action.
func calls(action string, pairs ...string) api.Request {
	r := request("POST", control, "soapaction", header(action))
	r.Body = []byte(called(action, pairs...))
	return r
}

// adds gives a right request of a host for a mapping of a TCP port, for 60 seconds.
func adds(host string, port int, other ...string) api.Request {
	list := args("NewRemoteHost", "", "NewExternalPort", fmt.Sprint(port), "NewProtocol", "TCP", "NewInternalPort", "8080", "NewInternalClient", host, "NewEnabled", "1", "NewPortMappingDescription", "web", "NewLeaseDuration", "60")
	var pairs []string
	for _, a := range list {
		for _, o := range args(other...) {
			if o.Name == a.Name {
				a.Value = o.Value
			}
		}
		pairs = append(pairs, a.Name, a.Value)
	}
	return calls("AddPortMapping", pairs...)
}

// subscribes gives a right request of a host for a subscription for 60 seconds.
func subscribes(host string) api.Request {
	return request("SUBSCRIBE", events, "nt", "upnp:event", "callback", "<http://"+host+":49152/e>", "timeout", "Second-60")
}

// sid gives the SID of the numbers 0 and n.
func sid(n int) string { return fmt.Sprintf("uuid:00000000-0000-0000-%04x-%012x", n>>48, n) }

// response gives a response with these lines, and with that of its type, if it has a body.
func response(status string, keep bool, body string, lines ...string) string {
	all := append([]string{"HTTP/1.1 " + status}, lines...)
	if body != "" {
		all = append(all, `CONTENT-TYPE: text/xml; charset="utf-8"`)
	}
	all = append(all, fmt.Sprint("CONTENT-LENGTH: ", len(body)))
	if !keep {
		all = append(all, "CONNECTION: close")
	}
	return strings.Join(append(all, "", body), "\r\n")
}

// look gives all that can be told of a Desk without doing anything to it.
func look(d *desk.Desk) string {
	return fmt.Sprint(slices.Collect(d.Maps.All()), d.Maps.Rules(), d.Maps.Update(), slices.Collect(d.Subs.All()), d.Vars())
}

// says wants a request of a host at the second 5 to be answered with just that, whether the connection stays or not.
func says(t *testing.T, name string, d *desk.Desk, r api.Request, who api.Addr, want func(keep bool) string) {
	t.Helper()
	saysAt(t, name, d, r, who, 5, 0, want)
}

// saysAt wants that at a second, with the numbers 0 and n drawn.
func saysAt(t *testing.T, name string, d *desk.Desk, r api.Request, who api.Addr, now uint64, n int, want func(keep bool) string) {
	t.Helper()
	got, keep := d.Answer(api.Parsed{Request: r}, who, now, [2]uint64{0, uint64(n)})
	if string(got) != want(r.Keep) || keep != r.Keep {
		t.Errorf("%q: %q, %t, not %q", name, got, keep, want(r.Keep))
	}
}

// plain gives a response that is no more than a status, and perhaps some lines.
func plain(status string, lines ...string) func(bool) string {
	return func(keep bool) string { return response(status, keep, "", lines...) }
}

// page gives a response with a body.
func page(status, body string) func(bool) string {
	return func(keep bool) string { return response(status, keep, body) }
}

// answered gives the response that an action answers.
func answered(action string, pairs ...string) func(bool) string {
	return page("200 OK", called(action+"Response", pairs...))
}

// failed gives the response that tells an action's error.
func failed(code int, words string) func(bool) string {
	return page("500 Internal Server Error", faulted(code, words))
}

// refuses wants a request to be answered with just that, and nothing to have changed, with Keep and without.
func refuses(t *testing.T, name string, d *desk.Desk, r api.Request, who api.Addr, want func(bool) string) {
	t.Helper()
	before := look(d)
	for _, keep := range []bool{true, false} {
		r.Keep = keep
		says(t, name, d, r, who, want)
	}
	if got := look(d); got != before {
		t.Errorf("%q: %s, not %s", name, got, before)
	}
}

// set gives a Desk at which .7 has the TCP port 80, and a subscription, both from the second 5 on for 60 seconds.
func set(t *testing.T, most int, forwards ...api.Forward) *desk.Desk {
	t.Helper()
	d := desk.New(config(most, forwards...))
	says(t, "set", d, adds("192.168.1.7", 80), a7, answered("AddPortMapping"))
	saysAt(t, "set", d, subscribes("192.168.1.7"), a7, 5, 1, plain("200 OK", "SID: "+sid(1), "TIMEOUT: Second-60"))
	return d
}

func TestP25_1New(t *testing.T) {
	d := desk.New(config(2, api.Forward{Proto: api.TCP, Port: 22, To: 1, Host: a9}))
	if d.Maps.Len() != 0 || d.Maps.Update() != 0 || d.Subs.Len() != 0 {
		t.Error(look(d))
	}
	says(t, "a forward's", d, adds("192.168.1.7", 22), a7, failed(729, "ConflictWithOtherMechanisms"))
	for i := range 2 {
		says(t, "as many as there may be", d, adds("192.168.1.7", 80+i), a7, answered("AddPortMapping"))
		saysAt(t, "as many as there may be", d, subscribes("192.168.1.7"), a7, 5, i, plain("200 OK", "SID: "+sid(i), "TIMEOUT: Second-60"))
	}
	says(t, "one more", d, adds("192.168.1.7", 82), a7, failed(728, "NoPortMapsAvailable"))
	saysAt(t, "one more", d, subscribes("192.168.1.7"), a7, 5, 2, plain("503 Service Unavailable"))
	if d.Maps.Len() != 2 || d.Subs.Len() != 2 {
		t.Error(look(d))
	}
	c := config(2)
	c.MaxSubs = 1
	d = desk.New(c)
	saysAt(t, "one", d, subscribes("192.168.1.7"), a7, 5, 1, plain("200 OK", "SID: "+sid(1), "TIMEOUT: Second-60"))
	saysAt(t, "one more", d, subscribes("192.168.1.7"), a7, 5, 2, plain("503 Service Unavailable"))
}

// P25.1: Configure takes away what isn't right any more.
func TestP25_1ConfigureHosts(t *testing.T) {
	d := set(t, 3)
	d.Configure(config(3))
	if d.Maps.Len() != 1 || d.Maps.Update() != 1 || d.Subs.Len() != 1 {
		t.Errorf("the same: %s", look(d))
	}
	d.Configure(elsewhere())
	if d.Maps.Len() != 0 || d.Maps.Update() != 2 || d.Subs.Len() != 0 {
		t.Errorf("elsewhere: %s", look(d))
	}
	says(t, "no host any more", d, adds("192.168.1.7", 80), a7, failed(606, "Action not authorized"))
	says(t, "a host now", d, adds("10.0.0.7", 80), 0x0a000007, answered("AddPortMapping"))
	saysAt(t, "a host now", d, subscribes("10.0.0.7"), 0x0a000007, 5, 3, plain("200 OK", "SID: "+sid(3), "TIMEOUT: Second-60"))

	own := config(3)
	own.LanAddr = a7 // No more a host's.
	d = set(t, 3)
	d.Configure(own)
	if d.Maps.Len() != 0 || d.Subs.Len() != 0 {
		t.Errorf("the gateway's own: %s", look(d))
	}
}

func TestP25_1ConfigureForwards(t *testing.T) {
	d := set(t, 3)
	d.Configure(config(3, api.Forward{Proto: api.UDP, Port: 80, To: 1, Host: a9}))
	if d.Maps.Len() != 1 || d.Subs.Len() != 1 {
		t.Errorf("another one's: %s", look(d))
	}
	d.Configure(config(3, api.Forward{Proto: api.TCP, Port: 80, To: 1, Host: a9}))
	if d.Maps.Len() != 0 || d.Subs.Len() != 1 {
		t.Errorf("the forward's: %s", look(d))
	}
	says(t, "the forward's", d, adds("192.168.1.7", 80), a7, failed(729, "ConflictWithOtherMechanisms"))
}

func TestP25_1ConfigureBounds(t *testing.T) {
	d := set(t, 3)
	says(t, "the second one", d, adds("192.168.1.8", 81), a8, answered("AddPortMapping"))
	saysAt(t, "the second one", d, subscribes("192.168.1.8"), a8, 5, 2, plain("200 OK", "SID: "+sid(2), "TIMEOUT: Second-60"))
	c := config(1)
	c.MaxSubs = 1
	d.Configure(c)
	if got := slices.Collect(d.Subs.All()); !slices.Equal(got, []string{sid(1)}) {
		t.Errorf("%q", got)
	}
	if m := d.Maps.Rules(); len(m) != 1 || m[0].Ext != 80 {
		t.Errorf("%v", m)
	}
	says(t, "full", d, adds("192.168.1.8", 81), a8, failed(728, "NoPortMapsAvailable"))
	saysAt(t, "full", d, subscribes("192.168.1.8"), a8, 5, 2, plain("503 Service Unavailable"))
	c.MaxMaps, c.MaxSubs = 2, 3
	d.Configure(c)
	says(t, "room", d, adds("192.168.1.8", 81), a8, answered("AddPortMapping"))
	says(t, "full", d, adds("192.168.1.8", 82), a8, failed(728, "NoPortMapsAvailable"))
	for i := 2; i < 4; i++ {
		saysAt(t, "room", d, subscribes("192.168.1.8"), a8, 5, i, plain("200 OK", "SID: "+sid(i), "TIMEOUT: Second-60"))
	}
	saysAt(t, "full", d, subscribes("192.168.1.8"), a8, 5, 4, plain("503 Service Unavailable"))
}

// P25.1: the configuration that holds is that which Configure was given last.
func TestP25_1ConfigureHolds(t *testing.T) {
	d := desk.New(config(3))
	address := func(text string) func(bool) string {
		return answered("GetExternalIPAddress", "NewExternalIPAddress", text)
	}
	says(t, "of New", d, calls("GetExternalIPAddress"), a7, address("203.0.113.5"))
	says(t, "of New", d, request("GET", "/desc.xml"), a7, page("200 OK", string(igd.Device(config(3)))))
	d.Configure(elsewhere())
	says(t, "of Configure", d, calls("GetExternalIPAddress"), a7, address("8.8.4.4"))
	says(t, "of Configure", d, request("GET", "/desc.xml"), a7, page("200 OK", string(igd.Device(elsewhere()))))
	if bytes.Equal(igd.Device(config(3)), igd.Device(elsewhere())) {
		t.Error("no difference")
	}
}

func TestP25_1Expire(t *testing.T) {
	d := set(t, 3)
	d.Expire(0)
	d.Expire(64)
	if d.Maps.Len() != 1 || d.Subs.Len() != 1 {
		t.Errorf("ahead of the end: %s", look(d))
	}
	d.Expire(65)
	if d.Maps.Len() != 0 || d.Maps.Update() != 2 || d.Subs.Len() != 0 {
		t.Errorf("at the end: %s", look(d))
	}
	d = set(t, 3)
	says(t, "renewed", d, adds("192.168.1.7", 80, "NewLeaseDuration", "61"), a7, answered("AddPortMapping"))
	d.Expire(65)
	if d.Maps.Len() != 1 || d.Subs.Len() != 0 {
		t.Errorf("the one alone: %s", look(d))
	}
	d = set(t, 3)
	says(t, "renewed", d, request("SUBSCRIBE", events, "sid", sid(1), "timeout", "Second-61"), a7, plain("200 OK", "SID: "+sid(1), "TIMEOUT: Second-61"))
	d.Expire(65)
	if d.Maps.Len() != 0 || d.Subs.Len() != 1 {
		t.Errorf("the other one alone: %s", look(d))
	}
}

func TestP25_1Vars(t *testing.T) {
	vars := func(address, update, count string) []api.Arg {
		return args("PossibleConnectionTypes", "IP_Routed", "ConnectionStatus", "Connected", "ExternalIPAddress", address, "SystemUpdateID", update, "PortMappingNumberOfEntries", count)
	}
	d := desk.New(config(3))
	for i, step := range []struct {
		does func()
		want []api.Arg
	}{
		{func() {}, vars("203.0.113.5", "0", "0")},
		{func() { says(t, "one", d, adds("192.168.1.7", 80), a7, answered("AddPortMapping")) }, vars("203.0.113.5", "1", "1")},
		{func() { says(t, "two", d, adds("192.168.1.7", 81), a7, answered("AddPortMapping")) }, vars("203.0.113.5", "2", "2")},
		{func() {
			says(t, "a subscription", d, subscribes("192.168.1.7"), a7, plain("200 OK", "SID: "+sid(0), "TIMEOUT: Second-60"))
		}, vars("203.0.113.5", "2", "2")},
		{func() { d.Configure(elsewhere()) }, vars("8.8.4.4", "3", "0")},
		{func() { d.Expire(last) }, vars("8.8.4.4", "3", "0")},
	} {
		step.does()
		if got := d.Vars(); !slices.Equal(got, step.want) {
			t.Errorf("%d: %v, not %v", i, got, step.want)
		}
	}
}

func TestP25_2Status(t *testing.T) {
	d := set(t, 3)
	before := look(d)
	for status, line := range map[int]string{
		400: "400 Bad Request", 411: "411 Length Required", 413: "413 Content Too Large", 431: "431 Request Header Fields Too Large", 501: "501 Not Implemented",
		200: "200 OK", 404: "404 Not Found", 100: "100 Status", 999: "999 Status", 1: "500 Internal Server Error", 1000: "500 Internal Server Error", -1: "500 Internal Server Error", math.MinInt: "500 Internal Server Error", math.MaxInt: "500 Internal Server Error",
	} {
		for name, r := range map[string]api.Request{
			"none": {}, "a mapping": adds("192.168.1.8", 81), "a subscription": subscribes("192.168.1.8"), "a description": request("GET", "/desc.xml"), "of no target": request("GET", "/x"),
			"that one's end": request("UNSUBSCRIBE", events, "sid", sid(1)),
		} {
			b, keep := d.Answer(api.Parsed{Status: status, Request: r}, a8, 5, [2]uint64{})
			if want := response(line, false, ""); string(b) != want || keep {
				t.Errorf("%d, %s: %q, %t, not %q", status, name, b, keep, want)
			}
		}
	}
	if got := look(d); got != before {
		t.Errorf("%s, not %s", got, before)
	}
}

func TestP25_2NoTarget(t *testing.T) {
	d := set(t, 3)
	for _, target := range []string{
		"", "/", "*", "/x", "/desc.xml/", "/desc.xml?", "/desc.xml?x=1", "/desc.xml#x", "//desc.xml", "desc.xml", "/desc.xm", "/desc.xmls", "/desc", "/DESC.XML", "/Desc.xml", "/ipc", "/ipc.xml ", " /ipc.xml", "/IPC.xml", "/ctl", "/ctl/", "/ctl/ipc/", "/ctl/ipc.xml", "/ctl//ipc", "/CTL/IPC", "/ctl/../desc.xml", "/evt", "/evt/ipc/", "/evt/ipc.xml", "/evt%2fipc", "/ctl/%69pc", "http://192.168.1.1:5000/desc.xml", "http://192.168.1.1:5000/ctl/ipc", "\x00", "/ctl/ipc\x00",
	} {
		for _, method := range []string{"GET", "HEAD", "POST", "SUBSCRIBE", "UNSUBSCRIBE", "PUT", ""} {
			r := adds("192.168.1.7", 81)
			r.Fields = append(r.Fields, fields("nt", "upnp:event", "callback", "<http://192.168.1.7/>")...)
			r.Method, r.Target = method, target
			refuses(t, method+" of "+target, d, r, a7, plain("404 Not Found"))
		}
	}
}

func TestP25_2NoMethod(t *testing.T) {
	d := set(t, 3)
	for target, methods := range map[string]string{"/desc.xml": "GET HEAD", "/ipc.xml": "GET HEAD", control: "POST", events: "SUBSCRIBE UNSUBSCRIBE"} {
		for _, method := range []string{"GET", "HEAD", "POST", "SUBSCRIBE", "UNSUBSCRIBE", "PUT", "DELETE", "OPTIONS", "NOTIFY", "M-SEARCH", "", "get", "Post", "GETS", "GE", " GET", "subscribe", "GET HEAD"} {
			if slices.Contains(strings.Fields(methods), method) {
				continue
			}
			r := adds("192.168.1.7", 81)
			r.Fields = append(r.Fields, fields("nt", "upnp:event", "callback", "<http://192.168.1.7/>", "content-type", "text/plain")...)
			r.Method, r.Target = method, target
			refuses(t, method+" of "+target, d, r, a7, plain("405 Method Not Allowed"))
		}
	}
}

func TestP25_2Descriptions(t *testing.T) {
	d := set(t, 3)
	refuses(t, "the device", d, request("GET", "/desc.xml"), a7, page("200 OK", string(igd.Device(config(3)))))
	refuses(t, "the service", d, request("GET", "/ipc.xml"), a7, page("200 OK", string(igd.Actions())))
	refuses(t, "HEAD of the device", d, request("HEAD", "/desc.xml"), a7, plain("200 OK"))
	refuses(t, "HEAD of the service", d, request("HEAD", "/ipc.xml"), a7, plain("200 OK"))
	// Whoever asks, and whatever else he tells.
	for _, who := range []api.Addr{0, gate, 0x08080808, math.MaxUint32} {
		r := request("GET", "/ipc.xml", "content-type", "text/plain", "soapaction", "x", "sid", "y", "accept", "image/png")
		r.Minor, r.Body = 0, []byte("body")
		refuses(t, "whoever asks", d, r, who, page("200 OK", string(igd.Actions())))
	}
}

func TestP25_2Subscribe(t *testing.T) {
	d := desk.New(config(2))
	const seven = "192.168.1.7"
	second60 := func(n int) func(bool) string { return plain("200 OK", "SID: "+sid(n), "TIMEOUT: Second-60") }
	saysAt(t, "the first one", d, subscribes(seven), a7, 5, 1, second60(1))
	refuses(t, "of another host", d, subscribes(seven), a8, plain("412 Precondition Failed"))
	refuses(t, "without an nt", d, request("SUBSCRIBE", events, "callback", "<http://"+seven+"/>"), a7, plain("412 Precondition Failed"))
	refuses(t, "without anything", d, request("SUBSCRIBE", events), a7, plain("412 Precondition Failed"))
	refuses(t, "two sids", d, request("SUBSCRIBE", events, "sid", sid(1), "sid", sid(1)), a7, plain("400 Bad Request"))
	refuses(t, "no such sid", d, request("SUBSCRIBE", events, "sid", sid(2)), a7, plain("412 Precondition Failed"))
	saysAt(t, "with that draw", d, subscribes(seven), a7, 5, 1, plain("503 Service Unavailable"))
	short := subscribes("192.168.1.8")
	short.Keep = false
	short.Fields = short.Fields[:2]
	saysAt(t, "without a time, and closing", d, short, a8, 6, 2, plain("200 OK", "SID: "+sid(2), "TIMEOUT: Second-1800"))
	refuses(t, "one more", d, subscribes(seven), a7, plain("503 Service Unavailable"))
	if got := slices.Collect(d.Subs.All()); !slices.Equal(got, []string{sid(1), sid(2)}) {
		t.Errorf("%q", got)
	}
	saysAt(t, "renewed", d, request("SUBSCRIBE", events, "sid", sid(1), "timeout", "Second-60"), a7, 40, 9, second60(1))
	d.Expire(99)
	if d.Subs.Len() != 2 {
		t.Errorf("%q", slices.Collect(d.Subs.All()))
	}
	d.Expire(100)
	if got := slices.Collect(d.Subs.All()); !slices.Equal(got, []string{sid(2)}) {
		t.Errorf("%q", got)
	}
}

// P25.2: both of the numbers that were drawn are in the SID.
func TestP25_2Draw(t *testing.T) {
	d := desk.New(config(2))
	b, _ := d.Answer(api.Parsed{Request: subscribes("192.168.1.7")}, a7, 5, [2]uint64{0x0123456789abcdef, 0xfedcba9876543210})
	if want := response("200 OK", true, "", "SID: uuid:01234567-89ab-cdef-fedc-ba9876543210", "TIMEOUT: Second-60"); string(b) != want {
		t.Errorf("%q, not %q", b, want)
	}
}

// P25.2: a subscriber is told from the second on at which he has subscribed.
func TestP25_2SubscribedNow(t *testing.T) {
	d := desk.New(config(2))
	saysAt(t, "at 7", d, subscribes("192.168.1.7"), a7, 7, 1, plain("200 OK", "SID: "+sid(1), "TIMEOUT: Second-60"))
	if n, ok := d.Subs.Next(6, d.Vars()); ok {
		t.Errorf("%v", n)
	}
	if n, ok := d.Subs.Next(7, d.Vars()); !ok || n.SID != sid(1) || n.Host != a7 || n.Port != 49152 || n.Target != "/e" || n.Seq != 0 {
		t.Errorf("%v, %t", n, ok)
	}
}

func TestP25_2Unsubscribe(t *testing.T) {
	d := set(t, 3)
	refuses(t, "without a sid", d, request("UNSUBSCRIBE", events), a7, plain("400 Bad Request"))
	refuses(t, "with an nt", d, request("UNSUBSCRIBE", events, "sid", sid(1), "nt", "upnp:event"), a7, plain("400 Bad Request"))
	refuses(t, "of another host", d, request("UNSUBSCRIBE", events, "sid", sid(1)), a8, plain("412 Precondition Failed"))
	refuses(t, "no such sid", d, request("UNSUBSCRIBE", events, "sid", sid(2)), a7, plain("412 Precondition Failed"))
	says(t, "that one", d, request("UNSUBSCRIBE", events, "sid", sid(1)), a7, plain("200 OK"))
	if d.Subs.Len() != 0 || d.Maps.Len() != 1 {
		t.Error(look(d))
	}
	refuses(t, "it is gone", d, request("UNSUBSCRIBE", events, "sid", sid(1)), a7, plain("412 Precondition Failed"))
}

// asks gives a right request with other fields ahead of its own, which change nothing.
func asks(pairs ...string) api.Request {
	r := calls("GetNATRSIPStatus")
	r.Fields = append(fields(pairs...), r.Fields...)
	return r
}

func TestP25_2ContentType(t *testing.T) {
	d := set(t, 3)
	right := answered("GetNATRSIPStatus", "NewRSIPAvailable", "0", "NewNATEnabled", "1")
	refuses(t, "none", d, asks(), a7, right)
	for _, s := range []string{
		"text/xml", `text/xml; charset="utf-8"`, "text/xml;charset=utf-8", "text/xml;", "text/xml;;", "text/xml; ", "text/xml ; charset=x", "text/xml   ;", "text/xml ", "text/xml  ", "TEXT/XML", "Text/Xml; charset=x", "tEXT/xML ;", "text/xml;\t", "text/xml;text/plain", `text/xml;"`,
	} {
		refuses(t, s, d, asks("content-type", s), a7, right)
		refuses(t, s+", and another one", d, asks("content-type", s, "content-type", "text/plain"), a7, right)
	}
	for _, s := range []string{
		"", " ", ";", ";text/xml", " text/xml", "\ttext/xml", "text/xm", "text/xmls", "text/plain", "application/xml", "text/xml, text/xml", "text/xml,", "text /xml", "text/ xml", "text/xml charset=utf-8", "text/xml:", "text/xml\x00", "xml", "text", "text/", "/xml", "application/soap+xml; text/xml", `"text/xml"`, "text/xml=;", "text/xml\xa0", "*/*", "text/*",
	} {
		refuses(t, s, d, asks("content-type", s), a7, plain("415 Unsupported Media Type"))
		refuses(t, s+", and another one", d, asks("content-type", s, "content-type", "text/xml"), a7, plain("415 Unsupported Media Type"))
	}
	refuses(t, "great letters stand in no name", d, asks("Content-Type", "text/plain", "content-typ", "text/plain"), a7, right)
}

// P25.2: the blanks of the chapter on heads are spaces: beside them it names tabs by themselves.
func TestP25_2ContentTypeTab(t *testing.T) {
	d := set(t, 3)
	for _, s := range []string{"text/xml\t", "text/xml\t;", "text/xml \t ; charset=x"} {
		refuses(t, s, d, asks("content-type", s), a7, plain("415 Unsupported Media Type"))
	}
}

// P25.2: 415 ahead of 400, and 400 ahead of what the action says.
func TestP25_2Order(t *testing.T) {
	d := set(t, 3)
	r := request("POST", control, "content-type", "text/plain")
	refuses(t, "415 ahead of 400", d, r, a7, plain("415 Unsupported Media Type"))
	r = adds("192.168.1.7", 80) // Another one's by then.
	r.Fields = fields("content-type", "text/plain", "soapaction", header("AddPortMapping"))
	refuses(t, "415 ahead of 718", d, r, a8, plain("415 Unsupported Media Type"))
	r.Fields = nil
	refuses(t, "400 ahead of 606", d, r, a8, plain("400 Bad Request"))
	r = calls("Nothing")
	r.Fields = fields("soapaction", header("Other"))
	refuses(t, "400 ahead of 401", d, r, a7, plain("400 Bad Request"))
}

func TestP25_2SoapAction(t *testing.T) {
	d := set(t, 3)
	body := adds("192.168.1.7", 81).Body
	right := header("AddPortMapping")
	for name, list := range map[string][]string{
		"none":                      {},
		"two":                       {"soapaction", right, "soapaction", right},
		"two, the other one wrong":  {"soapaction", right, "soapaction", ""},
		"two, the first one wrong":  {"soapaction", "", "soapaction", right},
		"empty":                     {"soapaction", ""},
		"without quotes":            {"soapaction", service + "#AddPortMapping"},
		"with one quote":            {"soapaction", `"` + service + "#AddPortMapping"},
		"without a #":               {"soapaction", `"` + service + `AddPortMapping"`},
		"with two":                  {"soapaction", `"` + service + `##AddPortMapping"`},
		"without an action":         {"soapaction", `"` + service + `#"`},
		"without a service":         {"soapaction", `"#AddPortMapping"`},
		"with something behind it":  {"soapaction", right + " "},
		"another action":            {"soapaction", header("AddAnyPortMapping")},
		"a part of it":              {"soapaction", header("AddPortMappin")},
		"small letters":             {"soapaction", header("addportmapping")},
		"another service":           {"soapaction", `"urn:schemas-upnp-org:service:WANIPConnection:1#AddPortMapping"`},
		"the service's great ones":  {"soapaction", `"` + strings.ToUpper(service) + `#AddPortMapping"`},
		"a blank in it":             {"soapaction", `"` + service + `# AddPortMapping"`},
		"of another name":           {"SOAPAction", right},
		"of another name, and none": {"soapactions", right, "soapactio", right},
	} {
		r := request("POST", control, list...)
		r.Body = body
		refuses(t, name, d, r, a7, plain("400 Bad Request"))
	}
	r := request("POST", control, "x", "y", "soapaction", right, "content-length", "5", "man", right)
	r.Body = body
	says(t, "just one", d, r, a7, answered("AddPortMapping"))
}

func TestP25_2Body(t *testing.T) {
	d := set(t, 3)
	right := string(adds("192.168.1.7", 81).Body)
	call := right[strings.Index(right, "<AddPort"):strings.Index(right, "</Body>")]
	for name, body := range map[string]string{
		"none":            "",
		"no XML":          "AddPortMapping",
		"cut off":         right[:len(right)-1],
		"more behind it":  right + "x",
		"a DTD":           "<!DOCTYPE Envelope []>" + right,
		"a DTD behind":    `<?xml version="1.0"?><!DOCTYPE x SYSTEM "y">` + right,
		"too long":        right + strings.Repeat(" ", 8193-len(right)),
		"no envelope":     call,
		"no Body":         strings.ReplaceAll(right, "Body", "Boy"),
		"another space":   strings.ReplaceAll(right, space, "urn:x"),
		"two calls":       enveloped(call + call),
		"no call":         enveloped(""),
		"a text":          enveloped("x" + call),
		"another action":  enveloped(strings.ReplaceAll(call, "AddPortMapping", "AddAnyPortMapping")),
		"another service": enveloped(strings.ReplaceAll(call, "Connection:2", "Connection:1")),
		"no service":      enveloped(strings.ReplaceAll(call, service, "")),
		"a name twice":    enveloped(strings.Replace(call, "</AddPortMapping>", "<NewProtocol>TCP</NewProtocol></AddPortMapping>", 1)),
		"17 arguments":    called("AddPortMapping", "A", "", "B", "", "C", "", "D", "", "E", "", "F", "", "G", "", "H", "", "I", "", "J", "", "K", "", "L", "", "M", "", "N", "", "O", "", "P", "", "Q", ""),
		"parts of one":    enveloped(strings.Replace(call, ">web<", "><b/><", 1)),
		"a byte 0":        strings.Replace(right, ">web<", ">\x00<", 1),
		"no such entity":  strings.Replace(right, ">web<", ">&web;<", 1),
	} {
		r := adds("192.168.1.7", 81)
		r.Body = []byte(body)
		refuses(t, name, d, r, a7, plain("400 Bad Request"))
	}
	for name, body := range map[string]string{
		"longest":            right + strings.Repeat(" ", 8192-len(right)),
		"a declaration":      `<?xml version="1.0"?>` + right,
		"a Header":           strings.Replace(right, "<Body", "<Header/><Body", 1),
		"an action's prefix": strings.NewReplacer("<AddPortMapping xmlns=", "<u:AddPortMapping xmlns:u=", "</AddPortMapping>", "</u:AddPortMapping>").Replace(right),
	} {
		r := adds("192.168.1.7", 81)
		r.Body = []byte(body)
		says(t, name, d, r, a7, answered("AddPortMapping"))
	}
}

// key gives the arguments that name a TCP port of all remote hosts.
func key(port string) []string {
	return []string{"NewRemoteHost", "", "NewExternalPort", port, "NewProtocol", "TCP"}
}

func TestP25_2Actions(t *testing.T) {
	d := set(t, 3)
	whole := func(left string) []string {
		return []string{"NewInternalPort", "8080", "NewInternalClient", "192.168.1.7", "NewEnabled", "1", "NewPortMappingDescription", "web", "NewLeaseDuration", left}
	}
	saysAt(t, "the second", d, calls("GetStatusInfo"), a7, 1234, 0, answered("GetStatusInfo", "NewConnectionStatus", "Connected", "NewLastConnectionError", "ERROR_NONE", "NewUptime", "1234"))
	saysAt(t, "what is left", d, calls("GetSpecificPortMappingEntry", key("80")...), a8, 25, 0, answered("GetSpecificPortMappingEntry", whole("40")...))
	saysAt(t, "the first one", d, calls("GetGenericPortMappingEntry", "NewPortMappingIndex", "0"), a8, 5, 0, answered("GetGenericPortMappingEntry", slices.Concat(key("80"), whole("60"))...))
	says(t, "nothing to answer", d, calls("RequestConnection"), a7, answered("RequestConnection"))
	r := adds("192.168.1.8", 80)
	r.Fields, r.Body = fields("soapaction", header("AddAnyPortMapping")), bytes.ReplaceAll(r.Body, []byte("AddPort"), []byte("AddAnyPort"))
	saysAt(t, "another port", d, r, a8, 10, 0, answered("AddAnyPortMapping", "NewReservedPort", "1024"))
	if e, code := d.Maps.At(1); code != 0 || e.Host != a8 || e.Ends != 70 || e.Words != "web" || !e.Enabled || e.To != 8080 {
		t.Errorf("%v, %d", e, code)
	}
	says(t, "taken away", d, calls("DeletePortMapping", key("80")...), a7, answered("DeletePortMapping"))
	says(t, "taken away", d, calls("DeletePortMappingRange", "NewStartPort", "1", "NewEndPort", "2000", "NewProtocol", "TCP", "NewManage", "0"), a8, answered("DeletePortMappingRange"))
	if d.Maps.Len() != 0 || d.Maps.Update() != 4 {
		t.Error(look(d))
	}
}

func TestP25_2Faults(t *testing.T) {
	d := set(t, 1, api.Forward{Proto: api.TCP, Port: 22, To: 1, Host: a9})
	for name, x := range map[string]struct {
		r     api.Request
		who   api.Addr
		code  int
		words string
	}{
		"no action":            {calls("Nothing"), a7, 401, "Invalid Action"},
		"no arguments":         {calls("AddPortMapping"), a7, 402, "Invalid Args"},
		"a wrong argument":     {adds("192.168.1.7", 81, "NewEnabled", "on"), a7, 402, "Invalid Args"},
		"too long a lease":     {adds("192.168.1.7", 80, "NewLeaseDuration", "604801"), a7, 402, "Invalid Args"},
		"for another host":     {adds("192.168.1.8", 81), a7, 606, "Action not authorized"},
		"by no host":           {adds("192.168.1.1", 81), gate, 606, "Action not authorized"},
		"its end":              {calls("ForceTermination"), a7, 606, "Action not authorized"},
		"not its own":          {calls("DeletePortMapping", key("80")...), a8, 606, "Action not authorized"},
		"no such index":        {calls("GetGenericPortMappingEntry", "NewPortMappingIndex", "1"), a7, 713, "SpecifiedArrayIndexInvalid"},
		"no such mapping":      {calls("GetSpecificPortMappingEntry", key("81")...), a7, 714, "NoSuchEntryInArray"},
		"any port":             {adds("192.168.1.7", 0), a7, 716, "WildCardNotPermittedInExtPort"},
		"another one's":        {adds("192.168.1.8", 80), a8, 718, "ConflictInMappingEntry"},
		"no room":              {adds("192.168.1.7", 81), a7, 728, "NoPortMapsAvailable"},
		"a forward's":          {adds("192.168.1.7", 22), a7, 729, "ConflictWithOtherMechanisms"},
		"none of those":        {calls("DeletePortMappingRange", "NewStartPort", "81", "NewEndPort", "90", "NewProtocol", "TCP", "NewManage", "0"), a7, 730, "PortMappingNotFound"},
		"to any port":          {adds("192.168.1.7", 81, "NewInternalPort", "0"), a7, 732, "WildCardNotPermittedInIntPort"},
		"from above to":        {calls("DeletePortMappingRange", "NewStartPort", "2", "NewEndPort", "1", "NewProtocol", "TCP", "NewManage", "0"), a7, 733, "InconsistentParameters"},
		"of another's service": {request("POST", control), a7, 401, "Invalid Action"},
	} {
		if name == "of another's service" {
			x.r.Fields = fields("soapaction", `"urn:x#GetStatusInfo"`)
			x.r.Body = []byte(enveloped(`<GetStatusInfo xmlns="urn:x"/>`))
		}
		refuses(t, name, d, x.r, x.who, failed(x.code, x.words))
	}
}

// lists gives the request for the TCP mappings of all ports.
func lists() api.Request {
	return calls("GetListOfPortMappings", "NewStartPort", "1", "NewEndPort", "65535", "NewProtocol", "TCP", "NewManage", "0", "NewNumberOfPorts", "0")
}

// P25.2: what is longer than layer 17 writes is told as 501.
func TestP25_2TooLong(t *testing.T) {
	d := desk.New(config(20))
	for i := range 8 {
		r := adds("192.168.1.7", 80+i, "NewPortMappingDescription", strings.Repeat(`"`, 64))
		says(t, "a mapping", d, r, a7, answered("AddPortMapping"))
		b, _ := d.Answer(api.Parsed{Request: lists()}, a7, 5, [2]uint64{})
		if i < 4 && !bytes.HasPrefix(b, []byte("HTTP/1.1 200 OK\r\nCONTENT-TYPE: text/xml; ")) {
			t.Errorf("%d: %q", i, b)
		}
	}
	refuses(t, "too long", d, lists(), a7, failed(501, "Action Failed"))
	says(t, "one is shorter", d, calls("GetGenericPortMappingEntry", "NewPortMappingIndex", "9"), a7, failed(713, "SpecifiedArrayIndexInvalid"))
}

// P25.2: what is told is told by the configuration, the host, the second, and nothing else.
func TestP25_2Whole(t *testing.T) {
	d := set(t, 3)
	scene := igd.Scene{Set: d.Maps, Conf: config(3), Who: a7, Now: 5}
	c, err := soap.Decode(lists().Body)
	answer, code := igd.Do(scene, c)
	if err != api.OK || code != 0 {
		t.Fatal(err, code)
	}
	b, err := soap.Encode(answer)
	if err != api.OK {
		t.Fatal(err)
	}
	refuses(t, "a list", d, lists(), a7, page("200 OK", string(b)))
}

func TestP25_3Tell(t *testing.T) {
	for _, x := range []struct {
		n          api.Note
		first, own string
	}{
		{api.Note{SID: sid(1), Seq: 3, Host: a7, Port: 80, Target: "/e?1", Body: []byte("body")}, "NOTIFY /e?1 HTTP/1.1", "192.168.1.7:80"},
		{api.Note{SID: "s", Seq: 0, Host: 0x0a000001, Port: 49152, Target: "/"}, "NOTIFY / HTTP/1.1", "10.0.0.1:49152"},
		{api.Note{SID: "s", Seq: math.MaxUint32, Host: math.MaxUint32, Port: 65535, Target: "/x", Body: []byte("a\r\n\r\nb\x00")}, "NOTIFY /x HTTP/1.1", "255.255.255.255:65535"},
		{api.Note{}, "NOTIFY  HTTP/1.1", "0.0.0.0:0"},
		{api.Note{SID: "s", Seq: 10, Host: a7, Port: 1, Target: "/", Body: gena.Body(args("A", "<1>"))}, "NOTIFY / HTTP/1.1", "192.168.1.7:1"},
	} {
		want := strings.Join([]string{
			x.first, "HOST: " + x.own, `CONTENT-TYPE: text/xml; charset="utf-8"`, "NT: upnp:event", "NTS: upnp:propchange",
			"SID: " + x.n.SID, fmt.Sprint("SEQ: ", x.n.Seq), "CONNECTION: close", fmt.Sprint("CONTENT-LENGTH: ", len(x.n.Body)), "", string(x.n.Body),
		}, "\r\n")
		if got := string(desk.Tell(x.n)); got != want {
			t.Errorf("%q, not %q", got, want)
		}
	}
}

// scribble writes over all of a list's room.
func scribble(b []byte) {
	b = b[:cap(b)]
	for i := range b {
		b[i] = '#'
	}
}

// P25.4: what is handed in may be written over.
func TestP25_4HandedIn(t *testing.T) {
	c := config(3, api.Forward{Proto: api.TCP, Port: 22, To: 1, Host: a9})
	d := desk.New(c)
	c.Forwards[0] = api.Forward{Proto: api.TCP, Port: 80, To: 1, Host: a9}
	says(t, "of New", d, adds("192.168.1.7", 80), a7, answered("AddPortMapping"))
	says(t, "of New", d, adds("192.168.1.7", 22), a7, failed(729, "ConflictWithOtherMechanisms"))
	c.Forwards[0].Port = 22
	d.Configure(c)
	c.Forwards[0].Port = 80
	says(t, "of Configure", d, adds("192.168.1.7", 80), a7, answered("AddPortMapping"))
	says(t, "of Configure", d, adds("192.168.1.7", 22), a7, failed(729, "ConflictWithOtherMechanisms"))

	for _, r := range []api.Request{adds("192.168.1.7", 81), subscribes("192.168.1.7"), request("GET", "/x"), lists()} {
		room := make([]byte, len(r.Body), len(r.Body)+100)
		copy(room, r.Body)
		list := make([]api.Field, len(r.Fields), len(r.Fields)+10)
		copy(list, r.Fields)
		mine := r
		mine.Body, mine.Fields = room, list
		d.Answer(api.Parsed{Request: mine}, a7, 5, [2]uint64{})
		if !bytes.Equal(room, r.Body) || !slices.Equal(list, r.Fields) || string(room[:cap(room)][len(room):]) != strings.Repeat("\x00", 100) || list[:cap(list)][len(list)] != (api.Field{}) {
			t.Errorf("%q, %v, not %q, %v", room, list, r.Body, r.Fields)
		}
		before := look(d)
		scribble(room)
		clear(list[:cap(list)])
		if got := look(d); got != before {
			t.Errorf("%s, not %s", got, before)
		}
	}
	body := []byte("body and more")
	n := api.Note{Body: body[:4]}
	told := desk.Tell(n)
	scribble(body)
	if !bytes.HasSuffix(told, []byte("body")) {
		t.Errorf("%q", told)
	}
	scribble(told)
	if string(body) != "#############" {
		t.Errorf("%q", body)
	}
}

// P25.4: what is answered is new memory.
func TestP25_4Answers(t *testing.T) {
	d := set(t, 3)
	var one [][]byte
	all := []api.Request{request("GET", "/desc.xml"), request("GET", "/ipc.xml"), request("HEAD", "/ipc.xml"), lists(), calls("Nothing"), calls("GetStatusInfo"), request("GET", "/x"), request("POST", control)}
	for range 2 {
		for i, r := range all {
			b, _ := d.Answer(api.Parsed{Request: r}, a7, 5, [2]uint64{})
			if len(one) < len(all) {
				one = append(one, bytes.Clone(b))
			} else if !bytes.Equal(b, one[i]) {
				t.Errorf("%d: %q, not %q", i, b, one[i])
			}
			scribble(b)
		}
	}
	vars := d.Vars()
	before := fmt.Sprint(vars)
	clear(vars[:cap(vars)])
	if got := fmt.Sprint(d.Vars()); got != before {
		t.Errorf("%s, not %s", got, before)
	}
}

// What is done to one Desk isn't seen in another.
func TestP25_4Two(t *testing.T) {
	other := desk.New(config(3))
	before := look(other)
	d := set(t, 3)
	d.Configure(elsewhere())
	if got := look(other); got != before {
		t.Errorf("%s, not %s", got, before)
	}
}
