package desk_test

import (
	"fmt"
	"math"
	"math/rand"
	"regexp"
	"slices"
	"strings"
	"testing"

	"hearth/api"
	"hearth/desk"
	"hearth/gena"
	"hearth/igd"
	"hearth/maps"
	"hearth/soap"
)

// model does what the chapter says by a Set and Subs of its own, to which layers 20 to 22 are taken at their word.
type model struct {
	c    api.Config
	maps *maps.Set
	subs *gena.Subs
}

var (
	typeOfXML = regexp.MustCompile(`\A(?i:text/xml) *(;|\z)`)
	soapOf    = regexp.MustCompile(`\A"([^"#]+)#([^"#]+)"\z`)
)

func newModel(c api.Config) *model { return &model{c, maps.New(c), gena.New(c.MaxSubs)} }

// isHost tells whether an address is a host's of a net of 24 bits, or fewer by 8.
func (m *model) isHost(a api.Addr) bool {
	behind := uint32(1)<<(32-m.c.LanBits) - 1
	own, other := uint32(m.c.LanAddr), uint32(a)
	return own&^behind == other&^behind && own != other && other&behind != 0 && other&behind != behind
}

func (m *model) configure(c api.Config) {
	m.c = c
	m.maps.Configure(c)
	m.subs.Drop(c.MaxSubs, m.isHost)
}

func (m *model) expire(now uint64) {
	m.maps.Expire(now)
	m.subs.Expire(now)
}

// answer gives a response's status, its lines but those that hang on its body and on Keep, and its body.
func (m *model) answer(x api.Parsed, who api.Addr, now uint64, draw [2]uint64) (status int, lines []string, body string) {
	r := x.Request
	var own string // the methods of the target
	switch r.Target {
	case "/desc.xml", "/ipc.xml":
		own = " GET HEAD "
	case "/ctl/ipc":
		own = " POST "
	case "/evt/ipc":
		own = " SUBSCRIBE UNSUBSCRIBE "
	}
	switch {
	case x.Status != 0:
		return x.Status, nil, ""
	case own == "":
		return 404, nil, ""
	case !strings.Contains(own, " "+r.Method+" "):
		return 405, nil, ""
	case r.Method == "GET" && r.Target == "/desc.xml":
		return 200, nil, string(igd.Device(m.c))
	case r.Method == "GET":
		return 200, nil, string(igd.Actions())
	case r.Method == "SUBSCRIBE":
		status, list := m.subs.Subscribe(r, who, now, draw)
		for _, f := range list {
			lines = append(lines, f.Name+": "+f.Value)
		}
		return status, lines, ""
	case r.Method == "UNSUBSCRIBE":
		return m.subs.Unsubscribe(r, who), nil, ""
	case r.Method == "POST":
		status, body := m.post(r, who, now)
		return status, nil, body
	}
	return 200, nil, ""
}

func (m *model) post(r api.Request, who api.Addr, now uint64) (int, string) {
	var types, actions []string
	for _, f := range r.Fields {
		switch f.Name {
		case "content-type":
			types = append(types, f.Value)
		case "soapaction":
			actions = append(actions, f.Value)
		}
	}
	if len(types) > 0 && !typeOfXML.MatchString(types[0]) {
		return 415, ""
	}
	if len(actions) != 1 || !soapOf.MatchString(actions[0]) {
		return 400, ""
	}
	call, err := soap.Decode(r.Body)
	if err != api.OK || `"`+call.Service+"#"+call.Action+`"` != actions[0] {
		return 400, ""
	}
	answer, code := igd.Do(igd.Scene{Set: m.maps, Conf: m.c, Who: who, Now: now}, call)
	if code == 0 {
		b, err := soap.Encode(answer)
		if err == api.OK {
			return 200, string(b)
		}
		code = 501
	}
	return 500, string(soap.Fault(code, igd.Words(code)))
}

// reasons is the words of the statuses that the model answers, or is handed.
func reasons(status int) string {
	return map[int]string{
		200: "OK", 400: "Bad Request", 404: "Not Found", 405: "Method Not Allowed", 411: "Length Required", 412: "Precondition Failed", 413: "Content Too Large", 415: "Unsupported Media Type",
		431: "Request Header Fields Too Large", 500: "Internal Server Error", 501: "Not Implemented", 503: "Service Unavailable",
	}[status]
}

func oneOf[T any](r *rand.Rand, all ...T) T { return all[r.Intn(len(all))] }

// run is a Desk, and a model that is asked the same.
type run struct {
	*rand.Rand
	d   *desk.Desk
	m   *model
	c   api.Config
	now uint64
	n   int // the number that is drawn next, beside 0
}

// begin gives a run in which nothing has happened.
func begin(seed int64) *run {
	r := rand.New(rand.NewSource(seed))
	c := config(oneOf(r, 1, 4, 12, 40), api.Forward{Proto: api.TCP, Port: 85, To: 1, Host: a9})
	return &run{Rand: r, d: desk.New(c), m: newModel(c), c: c}
}

// value gives a value for an argument: mostly one of a few that are right, so that calls meet one another.
func (r *run) value(name string) string {
	if r.Intn(60) == 0 {
		return oneOf(r.Rand, "", "x", "-1", "65536", "4294967296")
	}
	switch name {
	case "NewConnectionType":
		return oneOf(r.Rand, "IP_Routed", "IP_Routed", "other")
	case "NewPortMappingIndex":
		return oneOf(r.Rand, "0", "1", "2", "12")
	case "NewRemoteHost":
		return oneOf(r.Rand, "", "", "8.8.4.4")
	case "NewInternalClient":
		return oneOf(r.Rand, "192.168.1.7", "192.168.1.7", "192.168.1.8", "10.0.0.7")
	case "NewProtocol":
		return oneOf(r.Rand, "TCP", "TCP", "TCP", "UDP")
	case "NewEnabled", "NewManage":
		return oneOf(r.Rand, "1", "0")
	case "NewPortMappingDescription":
		return oneOf(r.Rand, "", "web", strings.Repeat(`"<&>`, 16), strings.Repeat(`"`, 64))
	case "NewLeaseDuration":
		return oneOf(r.Rand, "0", "60", "600", "604800", "604801")
	case "NewInternalPort":
		return oneOf(r.Rand, "8080", "8080", "8080", "8081", "0")
	case "NewNumberOfPorts":
		return oneOf(r.Rand, "0", "1", "9")
	case "NewEndPort":
		return oneOf(r.Rand, "80", "65535", "65535")
	case "NewStartPort":
		return oneOf(r.Rand, "0", "0", "90")
	}
	return fmt.Sprint(80 + r.Intn(20))
}

// known gives the actions with their arguments.
func known() [][]string {
	key := []string{"NewRemoteHost", "NewExternalPort", "NewProtocol"}
	whole := append(slices.Clone(key), "NewInternalPort", "NewInternalClient", "NewEnabled", "NewPortMappingDescription", "NewLeaseDuration")
	ports := []string{"NewStartPort", "NewEndPort", "NewProtocol", "NewManage"}
	return [][]string{
		slices.Concat([]string{"AddPortMapping"}, whole), slices.Concat([]string{"AddPortMapping"}, whole), slices.Concat([]string{"AddAnyPortMapping"}, whole), slices.Concat([]string{"AddAnyPortMapping"}, whole),
		slices.Concat([]string{"DeletePortMapping"}, key), slices.Concat([]string{"GetSpecificPortMappingEntry"}, key), {"GetGenericPortMappingEntry", "NewPortMappingIndex"},
		slices.Concat([]string{"DeletePortMappingRange"}, ports), slices.Concat([]string{"GetListOfPortMappings"}, ports, []string{"NewNumberOfPorts"}),
		{"SetConnectionType", "NewConnectionType"}, {"GetConnectionTypeInfo"}, {"RequestConnection"}, {"RequestTermination"}, {"GetStatusInfo"}, {"GetNATRSIPStatus"}, {"GetExternalIPAddress"}, {"Nothing"},
	}
}

// show gives what was read of a stream as a text.
func show(x api.Parsed) string {
	r := x.Request
	return fmt.Sprintf("%d, %s of %s, %q, %q, %t", x.Status, r.Method, r.Target, r.Fields, r.Body, r.Keep)
}

// post gives a POST, most of whose parts are right.
func (r *run) post() api.Request {
	k := oneOf(r.Rand, known()...)
	var pairs []string
	for _, name := range k[1:] {
		pairs = append(pairs, name, r.value(name))
	}
	q := calls(k[0], pairs...)
	switch r.Intn(30) {
	case 0:
		q.Fields = append(q.Fields, q.Fields[0])
	case 1:
		q.Fields = nil
	case 2:
		q.Fields[0].Value = oneOf(r.Rand, "", header("Other"), header(k[0])+" ", `"urn:x#`+k[0]+`"`, strings.Trim(header(k[0]), `"`))
	case 3:
		q.Body = q.Body[:r.Intn(len(q.Body))]
	case 4:
		q.Body = append([]byte("<!DOCTYPE x>"), q.Body...)
	case 5:
		q.Fields = append(q.Fields, fields("content-type", oneOf(r.Rand, "text/plain", "", "text/xm", "application/xml"), "content-type", "text/xml")...)
	case 6, 7, 8, 9, 10:
		q.Fields = append(q.Fields, fields("content-type", oneOf(r.Rand, "text/xml", `text/xml; charset="utf-8"`, "TEXT/XML  ;x"))...)
	case 11:
		q.Body = []byte(strings.ReplaceAll(string(q.Body), "Connection:2", "Connection:1"))
		if r.Intn(2) == 0 {
			q.Fields[0].Value = strings.ReplaceAll(q.Fields[0].Value, "Connection:2", "Connection:1")
		}
	}
	return q
}

// event gives a request for a subscription, for more of one, or for its end, most of whose parts are right.
func (r *run) event() api.Request {
	sid := sid(r.Intn(r.n + 1))
	if all := slices.Collect(r.d.Subs.All()); len(all) > 0 && r.Intn(4) > 0 {
		sid = oneOf(r.Rand, all...)
	}
	q := request("SUBSCRIBE", events)
	switch r.Intn(5) {
	case 0, 1:
		q = subscribes(oneOf(r.Rand, "192.168.1.7", "192.168.1.8", "10.0.0.7"))
	case 2:
		q = request("UNSUBSCRIBE", events, "sid", sid)
	case 3:
		q = request("SUBSCRIBE", events, "sid", sid, "timeout", oneOf(r.Rand, "Second-60", "Second-300", "infinite"))
	}
	if r.Intn(8) == 0 {
		q.Fields = append(q.Fields, fields(oneOf(r.Rand, "sid", "nt", "callback", "timeout"), "x")...)
	}
	return q
}

// parsed gives what may be read of a stream.
func (r *run) parsed() api.Parsed {
	x := api.Parsed{}
	switch r.Intn(8) {
	case 0, 1, 2, 3:
		x.Request = r.post()
	case 4, 5:
		x.Request = r.event()
	case 6:
		x.Request = request(oneOf(r.Rand, "GET", "GET", "HEAD"), oneOf(r.Rand, "/desc.xml", "/ipc.xml"))
	case 7:
		x.Request = oneOf(r.Rand, r.post(), r.event())
		x.Request.Method, x.Request.Target = oneOf(r.Rand, "GET", "HEAD", "POST", "SUBSCRIBE", "UNSUBSCRIBE"), oneOf(r.Rand, "/desc.xml", "/ipc.xml", control, events, "/", "/x")
	}
	x.Request.Keep = r.Intn(3) > 0
	if r.Intn(30) == 0 {
		x.Status = oneOf(r.Rand, 400, 411, 413, 431, 501)
	}
	return x
}

// happens lets something happen to both now and then that nobody asks for, and gives what it was.
func (r *run) happens() string {
	r.now += oneOf[uint64](r.Rand, 0, 0, 1, 20)
	switch r.Intn(40) {
	case 0, 1, 2:
		r.d.Expire(r.now)
		r.m.expire(r.now)
		return "Expire"
	case 3:
		r.c.MaxMaps, r.c.MaxSubs = oneOf(r.Rand, 1, 4, 12, 40), oneOf(r.Rand, 1, 2, 16)
		r.c.Forwards = []api.Forward{{Proto: api.TCP, Port: uint16(80 + r.Intn(10)), To: 1, Host: r.c.LanAddr + 8}}
		if r.Intn(4) == 0 {
			c := elsewhere()
			if r.c.LanBits == 8 {
				c = config(4)
			}
			r.c.LanAddr, r.c.LanBits, r.c.WanAddr, r.c.UUID = c.LanAddr, c.LanBits, c.WanAddr, c.UUID
			r.c.Forwards = nil
		}
		r.d.Configure(r.c)
		r.m.configure(r.c)
		return "Configure"
	}
	return ""
}

// next gives what both tell a subscriber, who takes it, or doesn't.
func (r *run) next() (got, want string) {
	n, ok := r.d.Subs.Next(r.now, r.d.Vars())
	n2, ok2 := r.m.subs.Next(r.now, igd.Vars(r.m.maps, r.m.c))
	took := r.Intn(20) > 0
	r.d.Subs.Done(n.SID, took, r.now)
	r.m.subs.Done(n2.SID, took, r.now)
	return fmt.Sprintf("%v, %t", n, ok), fmt.Sprintf("%v, %t", n2, ok2)
}

// step asks both one thing, and gives the answers.
func (r *run) step() (x api.Parsed, status int, got, want string) {
	x = r.parsed()
	who := oneOf[api.Addr](r.Rand, a7, a7, a7, a8, 0x0a000007, gate)
	r.n++
	draw := [2]uint64{0, uint64(r.n)}
	b, keep := r.d.Answer(x, who, r.now, draw)
	status, lines, body := r.m.answer(x, who, r.now, draw)
	stays := x.Status == 0 && x.Request.Keep
	return x, status, fmt.Sprintf("%q, %t", b, keep), fmt.Sprintf("%q, %t", response(fmt.Sprint(status, " ", reasons(status)), stays, body, lines...), stays)
}

func (m *model) look() string {
	return fmt.Sprint(slices.Collect(m.maps.All()), m.maps.Rules(), m.maps.Update(), slices.Collect(m.subs.All()), igd.Vars(m.maps, m.c))
}

func TestP25ByTheModel(t *testing.T) {
	met := map[string]int{}
	for seed := range int64(120) {
		r := begin(seed)
		for i := range 250 {
			what := r.happens()
			met[what]++
			x, status, got, want := r.step()
			if got != want {
				t.Fatalf("seed %d, step %d: %s: %.2000s, not %.2000s", seed, i, show(x), got, want)
			}
			met[fmt.Sprint(x.Request.Method, " ", status)]++
			if got, want := r.next(); got != want {
				t.Fatalf("seed %d, step %d: %s, %s: %s, not %s", seed, i, show(x), what, got, want)
			}
			if got, want := look(r.d), r.m.look(); got != want {
				t.Fatalf("seed %d, step %d: %s, %s: %s, not %s", seed, i, show(x), what, got, want)
			}
		}
	}
	for _, what := range []string{
		"Expire", "Configure", "GET 200", "HEAD 200", "GET 404", "HEAD 404", "POST 404", "SUBSCRIBE 404", "UNSUBSCRIBE 404", "GET 405", "HEAD 405", "POST 405", "SUBSCRIBE 405", "UNSUBSCRIBE 405",
		"POST 200", "POST 400", "POST 415", "POST 500", "SUBSCRIBE 200", "SUBSCRIBE 400", "SUBSCRIBE 412", "SUBSCRIBE 503", "UNSUBSCRIBE 200", "UNSUBSCRIBE 400", "UNSUBSCRIBE 412", "POST 431",
	} {
		if met[what] < 20 {
			t.Errorf("%s: met %d times", what, met[what])
		}
	}
}

// P25.4: a Desk that was never asked what another one has refused can't be told from that by anything that it answers later.
func TestP25_4Twins(t *testing.T) {
	refusals := []int{400, 404, 405, 411, 412, 413, 415, 431, 500, 501}
	refused := 0
	for seed := range int64(60) {
		r := begin(seed)
		twin := desk.New(r.c)
		r.m.maps, r.m.subs = twin.Maps, twin.Subs
		for i := range 200 {
			if r.happens() == "Configure" {
				twin.Configure(r.c) // Its Maps and Subs have been told of it as the model's.
			}
			x := r.parsed()
			r.n++
			who, draw := oneOf[api.Addr](r.Rand, a7, a7, a8, 0x0a000007), [2]uint64{0, uint64(r.n)}
			b, _ := r.d.Answer(x, who, r.now, draw)
			var status int
			fmt.Sscanf(string(b), "HTTP/1.1 %d", &status)
			if slices.Contains(refusals, status) {
				refused++
			} else {
				other, _ := twin.Answer(x, who, r.now, draw)
				if string(other) != string(b) {
					t.Fatalf("seed %d, step %d: %s: %q, not %q", seed, i, show(x), b, other)
				}
			}
			if got, want := r.next(); got != want {
				t.Fatalf("seed %d, step %d: %s, not %s", seed, i, got, want)
			}
			if got, want := look(r.d), r.m.look(); got != want {
				t.Fatalf("seed %d, step %d: %s: %s, not %s", seed, i, show(x), got, want)
			}
		}
	}
	if refused < 1000 {
		t.Error(refused)
	}
}

func TestP2Runs(t *testing.T) {
	drive := func(seed int64) string {
		r, out := begin(seed), ""
		for range 150 {
			r.happens()
			_, _, got, _ := r.step()
			told, _ := r.next()
			out += got + told + look(r.d) + "\n"
		}
		return out
	}
	for seed := range int64(10) {
		if one, two := drive(seed), drive(seed); one != two {
			t.Fatalf("seed %d: two runs differ:\n%s\n%s", seed, one, two)
		}
	}
}

// wild gives any bytes.
func wild(r *rand.Rand) string {
	b := make([]byte, r.Intn(1<<uint(r.Intn(9))))
	r.Read(b)
	return string(b)
}

// P1: no call panics, whatever it is given.
func TestP1Wild(t *testing.T) {
	for seed := range int64(200) {
		r := begin(seed)
		c := api.Config{
			LanAddr: oneOf[api.Addr](r.Rand, 0, gate, math.MaxUint32), LanBits: oneOf(r.Rand, -1, 0, 24, 33, math.MinInt, math.MaxInt), WanAddr: api.Addr(r.Uint32()),
			MaxMaps: oneOf(r.Rand, -1, 0, 3, math.MinInt, math.MaxInt), MaxSubs: oneOf(r.Rand, -1, 0, 3, math.MinInt, math.MaxInt), UUID: wild(r.Rand), Forwards: []api.Forward{{Proto: byte(r.Uint32()), Port: uint16(r.Uint32())}},
		}
		d := desk.New(c)
		for range 60 {
			x := r.parsed()
			switch q := &x.Request; r.Intn(6) {
			case 0:
				q.Body = []byte(wild(r.Rand))
			case 1:
				q.Fields = append(q.Fields, fields(wild(r.Rand), wild(r.Rand), "soapaction", wild(r.Rand))...)
			case 2:
				q.Method = wild(r.Rand)
			case 3:
				q.Target = wild(r.Rand)
			case 4:
				x.Status = int(r.Uint64())
			case 5:
				for i := range q.Fields {
					q.Fields[i].Value = wild(r.Rand)
				}
			}
			b, _ := d.Answer(x, oneOf[api.Addr](r.Rand, a7, 0, math.MaxUint32), oneOf(r.Rand, 0, last, r.Uint64()), [2]uint64{r.Uint64(), r.Uint64()})
			if !strings.HasPrefix(string(b), "HTTP/1.1 ") {
				t.Fatalf("%s: %q", show(x), b)
			}
			switch r.Intn(20) {
			case 0:
				d.Expire(oneOf(r.Rand, 0, last, r.Uint64()))
			case 1:
				d.Configure(oneOf(r.Rand, c, api.Config{}, config(3)))
			}
			desk.Tell(api.Note{SID: wild(r.Rand), Seq: r.Uint32(), Host: api.Addr(r.Uint32()), Port: uint16(r.Uint32()), Target: wild(r.Rand), Body: []byte(wild(r.Rand))})
		}
		d.Vars()
	}
	d := desk.New(api.Config{})
	d.Answer(api.Parsed{}, 0, 0, [2]uint64{})
	d.Vars()
}
