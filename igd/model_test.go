package igd_test

import (
	"fmt"
	"math"
	"math/rand"
	"net/netip"
	"regexp"
	"slices"
	"strings"
	"testing"

	"hearth/api"
	"hearth/igd"
	"hearth/maps"
)

// model does what the chapter says with a Set of its own, to which layer 20 is taken at its word.
type model struct {
	s     igd.Scene
	given map[string]string
}

var digits = regexp.MustCompile(`\A[0-9]{1,10}\z`)

// number gives the number of an argument, and whether it is one.
func (m *model) number(name string, most int) (n int, ok bool) {
	s := m.given[name]
	fmt.Sscanf(s, "%d", &n)
	return n, digits.MatchString(s) && n <= most
}

func (m *model) address(name string) (uint32, bool) {
	s := m.given[name]
	a, err := netip.ParseAddr(s)
	if err != nil || !a.Is4() {
		return 0, s == ""
	}
	q := a.As4()
	return uint32(q[0])<<24 | uint32(q[1])<<16 | uint32(q[2])<<8 | uint32(q[3]), a.String() == s
}

// fine tells whether an argument is of its kind.
func (m *model) fine(name string) (ok bool) {
	s := m.given[name]
	switch name {
	case "NewRemoteHost", "NewInternalClient":
		_, ok = m.address(name)
	case "NewProtocol":
		ok = s == "TCP" || s == "UDP"
	case "NewEnabled", "NewManage":
		ok = slices.Contains(fields("1 true yes 0 false no"), s)
	case "NewPortMappingDescription", "NewConnectionType":
		ok = regexp.MustCompile(`\A[ -~]{0,64}\z`).MatchString(s)
	case "NewLeaseDuration":
		_, ok = m.number(name, math.MaxUint32)
	default:
		_, ok = m.number(name, 65535)
	}
	return ok
}

// do gives what a call is to be answered with.
func (m *model) do(c api.Call) (api.Call, int) {
	var action *struct {
		name string
		args []string
	}
	for i := range known {
		if known[i].name == c.Action && c.Service == service {
			action = &known[i]
		}
	}
	if action == nil {
		return api.Call{}, 401
	}
	var names []string
	m.given = map[string]string{}
	for _, a := range c.Args {
		names = append(names, a.Name)
		m.given[a.Name] = a.Value
	}
	slices.Sort(names)
	wanted := slices.Sorted(slices.Values(action.args))
	if !slices.Equal(names, wanted) {
		return api.Call{}, 402
	}
	for _, name := range names {
		if !m.fine(name) {
			return api.Call{}, 402
		}
	}
	pairs, code := m.act(action.name)
	if code != 0 {
		return api.Call{}, code
	}
	return api.Call{Service: service, Action: action.name + "Response", Args: args(pairs...)}, 0
}

// entry gives what is asked for, or asked after.
func (m *model) entry() api.Entry {
	ext, _ := m.number("NewExternalPort", 65535)
	to, _ := m.number("NewInternalPort", 65535)
	remote, _ := m.address("NewRemoteHost")
	host, _ := m.address("NewInternalClient")
	return api.Entry{
		Mapping: api.Mapping{Proto: m.proto(), Ext: uint16(ext), To: uint16(to), Remote: api.Addr(remote), Host: api.Addr(host)},
		Enabled: slices.Contains(fields("1 true yes"), m.given["NewEnabled"]), Words: m.given["NewPortMappingDescription"],
	}
}

func (m *model) proto() byte {
	if m.given["NewProtocol"] == "TCP" {
		return api.TCP
	}
	return api.UDP
}

// act gives what an action whose arguments are right answers.
func (m *model) act(action string) ([]string, int) {
	lease, _ := m.number("NewLeaseDuration", math.MaxUint32)
	from, _ := m.number("NewStartPort", 65535)
	to, _ := m.number("NewEndPort", 65535)
	most, _ := m.number("NewNumberOfPorts", 65535)
	index, _ := m.number("NewPortMappingIndex", 65535)
	switch action {
	case "SetConnectionType":
		if m.given["NewConnectionType"] != "IP_Routed" {
			return nil, 402
		}
		return nil, 0
	case "GetConnectionTypeInfo":
		return []string{"NewConnectionType", "IP_Routed", "NewPossibleConnectionTypes", "IP_Routed"}, 0
	case "RequestTermination", "ForceTermination":
		return nil, 606
	case "GetStatusInfo":
		return []string{"NewConnectionStatus", "Connected", "NewLastConnectionError", "ERROR_NONE", "NewUptime", fmt.Sprint(m.s.Now)}, 0
	case "GetNATRSIPStatus":
		return []string{"NewRSIPAvailable", "0", "NewNATEnabled", "1"}, 0
	case "GetExternalIPAddress":
		return []string{"NewExternalIPAddress", dotted(m.s.Conf.WanAddr)}, 0
	case "GetGenericPortMappingEntry":
		e, code := m.s.Set.At(uint64(index))
		told := m.tell(e)
		return slices.Insert(told[3:], 0, told[:3]...), code
	case "GetSpecificPortMappingEntry":
		e, code := m.s.Set.Find(m.entry().Mapping)
		return m.tell(e)[6:], code
	case "AddPortMapping":
		return nil, m.s.Set.Add(m.s.Who, m.entry(), uint64(lease), m.s.Now)
	case "AddAnyPortMapping":
		port, code := m.s.Set.AddAny(m.s.Who, m.entry(), uint64(lease), m.s.Now)
		return []string{"NewReservedPort", fmt.Sprint(port)}, code
	case "DeletePortMapping":
		return nil, m.s.Set.Delete(m.s.Who, m.entry().Mapping)
	case "DeletePortMappingRange":
		return nil, m.s.Set.DeleteRange(m.s.Who, m.proto(), uint16(from), uint16(to))
	case "GetListOfPortMappings":
		all, code := m.s.Set.Range(m.proto(), uint16(from), uint16(to), uint64(most))
		return []string{"NewPortListing", m.list(all)}, code
	}
	return nil, 0
}

func dotted(a api.Addr) string {
	if a == 0 {
		return ""
	}
	return fmt.Sprintf("%d.%d.%d.%d", a>>24, a>>16&255, a>>8&255, a&255)
}

// tell gives all that is told of a mapping.
func (m *model) tell(e api.Entry) []string {
	left := uint64(0)
	if e.Ends > m.s.Now {
		left = e.Ends - m.s.Now
	}
	on := map[bool]string{true: "1", false: "0"}[e.Enabled]
	way := map[byte]string{api.TCP: "TCP", api.UDP: "UDP"}[e.Proto]
	return []string{
		"NewRemoteHost", dotted(e.Remote), "NewExternalPort", fmt.Sprint(e.Ext), "NewProtocol", way,
		"NewInternalPort", fmt.Sprint(e.To), "NewInternalClient", dotted(e.Host), "NewEnabled", on,
		"NewPortMappingDescription", e.Words, "NewLeaseDuration", fmt.Sprint(left),
	}
}

func (m *model) list(all []api.Entry) string {
	var entries []string
	for i, e := range all {
		if i == 8 {
			break
		}
		told := m.tell(e)
		told[12], told[14] = "NewDescription", "NewLeaseTime"
		s := "<p:PortMappingEntry>"
		for p := range slices.Chunk(told, 2) {
			s += "<p:" + p[0] + ">" + strings.NewReplacer("&", "&amp;", "<", "&lt;", ">", "&gt;", `"`, "&quot;").Replace(p[1]) + "</p:" + p[0] + ">"
		}
		entries = append(entries, s+"</p:PortMappingEntry>")
	}
	return listing(entries...)
}

func oneOf[T interface{}](r *rand.Rand, all ...T) T { return all[r.Intn(len(all))] }

// some gives a value for an argument: mostly one of a few that are right, so that calls meet one another.
func some(r *rand.Rand, name string) string {
	if r.Intn(40) == 0 {
		good, bad := kinds(name)
		return oneOf(r, oneOf(r, good...), oneOf(r, bad...))
	}
	switch name {
	case "NewConnectionType":
		return oneOf(r, "IP_Routed", "IP_Routed", "other")
	case "NewPortMappingIndex":
		return oneOf(r, "0", "1", "2", "5", "12")
	case "NewRemoteHost":
		return oneOf(r, "", "", "8.8.4.4")
	case "NewInternalClient":
		return oneOf(r, "192.168.1.7", "192.168.1.7", "192.168.1.7", "192.168.1.8", "8.8.4.4")
	case "NewProtocol":
		return oneOf(r, "TCP", "TCP", "UDP")
	case "NewEnabled", "NewManage":
		return oneOf(r, "1", "0", "true", "no")
	case "NewPortMappingDescription":
		return oneOf(r, "", "web", `<&">'`)
	case "NewLeaseDuration":
		return oneOf(r, "0", "60", "600", "604800", "604801")
	case "NewInternalPort":
		return oneOf(r, "8080", "8080", "8080", "8081", "0")
	case "NewNumberOfPorts":
		return oneOf(r, "0", "1", "3", "9")
	case "NewEndPort":
		return oneOf(r, "80", "1030", "65535", "65535")
	case "NewStartPort":
		return oneOf(r, "0", "0", "80", "90")
	}
	return fmt.Sprint(80 + r.Intn(20))
}

// someCall gives a call, most of whose parts are right.
func someCall(r *rand.Rand) api.Call {
	k := known[r.Intn(len(known))]
	if r.Intn(2) == 0 {
		k = known[8+r.Intn(len(known)-8)]
	}
	c := api.Call{Service: service, Action: k.name}
	for _, name := range k.args {
		c.Args = append(c.Args, api.Arg{Name: name, Value: some(r, name)})
	}
	r.Shuffle(len(c.Args), func(i, j int) { c.Args[i], c.Args[j] = c.Args[j], c.Args[i] })
	switch r.Intn(100) {
	case 0:
		c.Service = oneOf(r, "", "urn:x", service+" ")
	case 1:
		c.Action = oneOf(r, "", "Get", strings.ToLower(c.Action))
	case 2:
		c.Args = append(c.Args, api.Arg{Name: oneOf(r, "", "NewOther", "NewProtocol"), Value: "TCP"})
	case 3:
		c.Args = c.Args[:max(len(c.Args)-1, 0)]
	case 4:
		if len(c.Args) > 1 {
			c.Args[0] = c.Args[1]
		}
	}
	return c
}

// run is a scene, and a model that is asked the same.
type run struct {
	*rand.Rand
	s igd.Scene
	m *model
}

// begin gives a run in which no mappings are there.
func begin(seed int64) *run {
	r := rand.New(rand.NewSource(seed))
	c := config(oneOf(r, 1, 4, 12, 40), api.Forward{Proto: api.TCP, Port: 85, To: 1, Host: a9})
	s := igd.Scene{Set: maps.New(c), Conf: c, Who: a7, Now: 0}
	return &run{Rand: r, s: s, m: &model{s: igd.Scene{Set: maps.New(c), Conf: c, Who: a7, Now: 0}}}
}

// step asks both one thing, and gives the answers.
func (r *run) step() (c api.Call, got, want string) {
	c = someCall(r.Rand)
	r.s.Now += oneOf[uint64](r.Rand, 0, 0, 1, 20)
	r.s.Who = oneOf[api.Addr](r.Rand, a7, a7, a7, a8, a8, gate)
	r.m.s.Now, r.m.s.Who = r.s.Now, r.s.Who
	if r.Intn(20) == 0 {
		r.s.Set.Expire(r.s.Now)
		r.m.s.Set.Expire(r.s.Now)
	}
	return c, show(igd.Do(r.s, c)), show(r.m.do(c))
}

func TestP21_1ByTheModel(t *testing.T) {
	met := map[string]int{}
	for seed := range int64(150) {
		r := begin(seed)
		for i := range 300 {
			c, got, want := r.step()
			if got != want || look(r.s.Set) != look(r.m.s.Set) {
				t.Fatalf("seed %d, step %d: %s: %s, not %s; %s, not %s", seed, i, show(c, 0), got, want, look(r.s.Set), look(r.m.s.Set))
			}
			met[c.Action+got[strings.LastIndex(got, ","):]]++
		}
	}
	for _, k := range known {
		codes := map[string]string{
			"SetConnectionType": "0 402", "RequestTermination": "606", "ForceTermination": "606",
			"GetGenericPortMappingEntry": "0 402 713", "GetSpecificPortMappingEntry": "0 402 714",
			"AddPortMapping": "0 402 606 716 718 728 729 732", "AddAnyPortMapping": "0 402 606 728 732",
			"DeletePortMapping": "0 402 606 714", "DeletePortMappingRange": "0 402 730 733", "GetListOfPortMappings": "0 402 730 733",
		}[k.name]
		if codes == "" {
			codes = "0"
		}
		for _, code := range fields(codes) {
			if n := met[k.name+", "+code]; n < 3 {
				t.Errorf("%s, %s: met %d times", k.name, code, n)
			}
		}
	}
}

func TestP2Runs(t *testing.T) {
	drive := func(seed int64) string {
		r, out := begin(seed), ""
		for range 200 {
			_, got, _ := r.step()
			out += got + look(r.s.Set) + fmt.Sprint(igd.Vars(r.s.Set, r.s.Conf)) + "\n"
		}
		return out + string(igd.Device(r.s.Conf)) + string(igd.Actions())
	}
	for seed := range int64(10) {
		if one, two := drive(seed), drive(seed); one != two {
			t.Fatalf("seed %d: two runs differ:\n%s\n%s", seed, one, two)
		}
	}
}

// wild gives any bytes.
func wild(r *rand.Rand) string {
	b := make([]byte, r.Intn(1<<uint(r.Intn(9))))
	r.Read(b)
	return string(b)
}

// P1: no call panics, whatever it is given.
func TestP1Wild(t *testing.T) {
	for seed := range int64(300) {
		r := rand.New(rand.NewSource(seed))
		c := api.Config{LanAddr: oneOf[api.Addr](r, 0, gate, math.MaxUint32), LanBits: oneOf(r, -1, 0, 24, 33, math.MinInt, math.MaxInt), WanAddr: api.Addr(r.Uint32()), MaxMaps: oneOf(r, -1, 0, 3, math.MinInt, math.MaxInt), UUID: wild(r)}
		c.Forwards = []api.Forward{{Proto: byte(r.Uint32()), Port: uint16(r.Uint32())}}
		s := igd.Scene{Set: maps.New(c), Conf: c}
		for range 100 {
			s.Who, s.Now = oneOf[api.Addr](r, a7, 0, api.Addr(r.Uint32())), oneOf(r, 0, math.MaxUint64, r.Uint64())
			x := someCall(r)
			if r.Intn(3) == 0 && len(x.Args) > 0 {
				x.Args[r.Intn(len(x.Args))] = api.Arg{Name: wild(r), Value: wild(r)}
			}
			if r.Intn(9) == 0 {
				x.Action = wild(r)
			}
			if a, code := igd.Do(s, x); (code == 0) != (a.Action != "") {
				t.Fatal(show(a, code))
			}
			igd.Words(int(r.Uint64()))
		}
		igd.Vars(s.Set, c)
		igd.Device(c)
	}
	igd.Vars(nil, api.Config{})
	igd.Device(api.Config{})
	igd.Actions()
}
