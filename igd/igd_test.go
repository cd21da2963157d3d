package igd_test

import (
	"bytes"
	encoding "encoding/xml"
	"fmt"
	"math"
	"slices"
	"strings"
	"testing"

	"hearth/api"
	"hearth/igd"
	"hearth/maps"
	"hearth/soap"
	"hearth/xml"
)

// The signatures that the chapter lists.
var (
	_ func(igd.Scene, api.Call) (api.Call, int) = igd.Do
	_ func(int) string                          = igd.Words
	_ func(*maps.Set, api.Config) []api.Arg     = igd.Vars
	_ func(api.Config) []byte                   = igd.Device
	_ func() []byte                             = igd.Actions

	_ = igd.Scene{Set: (*maps.Set)(nil), Conf: api.Config{}, Who: api.Addr(0), Now: uint64(0)}
)

const (
	gate = 0xc0a80101
	a7   = 0xc0a80107
	a8   = 0xc0a80108
	a9   = 0xc0a80109
	far  = 0x08080404

	service = "urn:schemas-upnp-org:service:WANIPConnection:2"
	uuid    = "00000000-1111-2222-3333-444444444444"
)

// known is the service's actions with their arguments, in the chapter's order.
var known = []struct {
	name string
	args []string
}{
	{"SetConnectionType", fields("NewConnectionType")},
	{"GetConnectionTypeInfo", nil},
	{"RequestConnection", nil},
	{"RequestTermination", nil},
	{"ForceTermination", nil},
	{"GetStatusInfo", nil},
	{"GetNATRSIPStatus", nil},
	{"GetExternalIPAddress", nil},
	{"GetGenericPortMappingEntry", fields("NewPortMappingIndex")},
	{"GetSpecificPortMappingEntry", fields("NewRemoteHost NewExternalPort NewProtocol")},
	{"AddPortMapping", fields("NewRemoteHost NewExternalPort NewProtocol NewInternalPort NewInternalClient NewEnabled NewPortMappingDescription NewLeaseDuration")},
	{"AddAnyPortMapping", fields("NewRemoteHost NewExternalPort NewProtocol NewInternalPort NewInternalClient NewEnabled NewPortMappingDescription NewLeaseDuration")},
	{"DeletePortMapping", fields("NewRemoteHost NewExternalPort NewProtocol")},
	{"DeletePortMappingRange", fields("NewStartPort NewEndPort NewProtocol NewManage")},
	{"GetListOfPortMappings", fields("NewStartPort NewEndPort NewProtocol NewManage NewNumberOfPorts")},
}

func fields(s string) []string { return strings.Fields(s) }

// usual gives a value that is right for each argument.
func usual(name string) string {
	return map[string]string{
		"NewConnectionType": "IP_Routed", "NewPortMappingIndex": "0",
		"NewRemoteHost": "", "NewExternalPort": "80", "NewProtocol": "TCP", "NewInternalPort": "8080", "NewInternalClient": "192.168.1.7", "NewEnabled": "1", "NewPortMappingDescription": "web", "NewLeaseDuration": "60",
		"NewStartPort": "1", "NewEndPort": "65535", "NewManage": "0", "NewNumberOfPorts": "0",
	}[name]
}

// config gives a configuration that is right, with room for so many mappings.
func config(most int, forwards ...api.Forward) api.Config {
	return api.Config{
		LanMAC: api.MAC{2, 0, 0, 0, 0, 1}, WanMAC: api.MAC{2, 0, 0, 0, 1, 1}, HopMAC: api.MAC{2, 0, 0, 0, 1, 2},
		LanAddr: gate, LanBits: 24, WanAddr: 0xcb007105,
		MaxSessions: 4, MaxMaps: most, MaxConns: 3, MaxSubs: 2,
		Forwards: forwards, UUID: uuid,
	}
}

// scene gives one in which .7 asks at the second 100, with room for so many mappings, and none there.
func scene(most int, forwards ...api.Forward) igd.Scene {
	c := config(most, forwards...)
	return igd.Scene{Set: maps.New(c), Conf: c, Who: a7, Now: 100}
}

// by gives the scene in which another one asks, at another second.
func by(s igd.Scene, who api.Addr, now uint64) igd.Scene {
	s.Who, s.Now = who, now
	return s
}

// args gives arguments of their names, each with its value behind it.
func args(pairs ...string) []api.Arg {
	var out []api.Arg
	for p := range slices.Chunk(pairs, 2) {
		out = append(out, api.Arg{Name: p[0], Value: p[1]})
	}
	return out
}

// named gives the names of an action's arguments.
func named(action string) []string {
	for _, k := range known {
		if k.name == action {
			return k.args
		}
	}
	return nil
}

// call gives a call of an action with its usual arguments, but with those that are told otherwise.
func call(action string, other ...string) api.Call {
	c := api.Call{Service: service, Action: action}
	for _, name := range named(action) {
		text := usual(name)
		for p := range slices.Chunk(other, 2) {
			if p[0] == name {
				text = p[1]
			}
		}
		c.Args = append(c.Args, api.Arg{Name: name, Value: text})
	}
	return c
}

// look gives all that can be told of a Set.
func look(s *maps.Set) string {
	return fmt.Sprintf("%v %v %d %d", slices.Collect(s.All()), s.Rules(), s.Len(), s.Update())
}

func show(c api.Call, code int) string { return fmt.Sprintf("%q, %d", c, code) }

// refused wants a call to be answered with that code, and nothing to have changed.
func refused(t *testing.T, name string, s igd.Scene, c api.Call, want int) {
	t.Helper()
	before := look(s.Set)
	a, code := igd.Do(s, c)
	if code != want || a.Service != "" || a.Action != "" || len(a.Args) != 0 {
		t.Errorf("%s: %.300s: %s, not %d", name, show(c, 0), show(a, code), want)
	}
	if now := look(s.Set); now != before {
		t.Errorf("%s: it has changed: %s, not %s", name, now, before)
	}
}

// answers wants a call to be answered with these arguments.
func answers(t *testing.T, name string, s igd.Scene, c api.Call, pairs ...string) {
	t.Helper()
	a, code := igd.Do(s, c)
	if code != 0 || a.Service != service || a.Action != c.Action+"Response" || !slices.Equal(a.Args, args(pairs...)) {
		t.Errorf("%s: %.300s: %s, not %q", name, show(c, 0), show(a, code), args(pairs...))
	}
}

// filled gives a scene in which .7 and .8 have a mapping each.
func filled(t *testing.T) igd.Scene {
	t.Helper()
	s := scene(9)
	answers(t, "first", s, call("AddPortMapping"))
	answers(t, "second", by(s, a8, 100), call("AddPortMapping", "NewRemoteHost", "8.8.4.4", "NewExternalPort", "5000", "NewProtocol", "UDP", "NewInternalPort", "6000", "NewInternalClient", "192.168.1.8", "NewEnabled", "0", "NewPortMappingDescription", "a<b", "NewLeaseDuration", "0"))
	return s
}

func TestP21_1BadAction(t *testing.T) {
	s := filled(t)
	for _, k := range known {
		for _, other := range []string{"", "urn:x", strings.ToLower(service), service + " ", " " + service, service[:len(service)-1] + "1", service[:len(service)-1], service + "#" + k.name} {
			c := call(k.name)
			c.Service = other
			refused(t, "service", s, c, 401)
			c.Args = append(c.Args, api.Arg{Name: "x"})
			refused(t, "service and arguments", s, c, 401)
		}
		for _, other := range []string{strings.ToLower(k.name), strings.ToUpper(k.name), k.name + " ", " " + k.name, k.name + "Response", k.name[:len(k.name)-1], k.name + "\x00", "u:" + k.name} {
			c := call(k.name)
			c.Action = other
			refused(t, "action", s, c, 401)
			c.Args = append(c.Args, api.Arg{Name: "x"})
			refused(t, "action and arguments", s, c, 401)
		}
	}
	for _, other := range []string{"", "Nothing", "GetListOfPortMapping", "GetPortMappings", "QueryStateVariable", "GetDefaultConnectionService"} {
		refused(t, "none", s, api.Call{Service: service, Action: other}, 401)
	}
	refused(t, "zero", s, api.Call{}, 401)
}

// Of an action's arguments none may be missing, twice there or another one; their order plays no part.
func TestP21_1BadArgs(t *testing.T) {
	for _, k := range known {
		s := filled(t)
		for i, name := range k.args {
			c := call(k.name)
			c.Args = slices.Delete(c.Args, i, i+1)
			refused(t, "without "+name, s, c, 402)
			c.Args = append(call(k.name).Args, call(k.name).Args[i])
			refused(t, "twice "+name, s, c, 402)
			c.Args = append(call(k.name).Args, api.Arg{Name: name, Value: "another value"})
			refused(t, "twice, otherwise, "+name, s, c, 402)
			for j := range k.args {
				if j != i {
					c.Args = call(k.name).Args
					c.Args[j] = c.Args[i]
					refused(t, name+" in place of "+k.args[j], s, c, 402)
				}
			}
			for _, other := range []string{"", strings.ToLower(name), strings.TrimPrefix(name, "New"), name + " ", " " + name, "u:" + name, "NewOther"} {
				c.Args = call(k.name).Args
				c.Args[i].Name = other
				refused(t, "other name", s, c, 402)
			}
		}
		for _, more := range []api.Arg{{}, {Name: "NewOther", Value: "1"}, {Name: "NewManage", Value: "0"}, {Name: "NewProtocol", Value: "TCP"}} {
			c := call(k.name)
			c.Args = append(c.Args, more)
			refused(t, "one more", s, c, 402)
			c.Args = slices.Concat([]api.Arg{more}, call(k.name).Args)
			refused(t, "one more, ahead", s, c, 402)
		}
		c := call(k.name)
		c.Args = append(c.Args, make([]api.Arg, 100000)...)
		refused(t, "many", s, c, 402)
		if len(k.args) > 0 {
			c.Args = nil
			refused(t, "none", s, c, 402)
		}
	}
}

// turns gives all orders of arguments, or some of them, where there are many.
func turns(list []api.Arg) [][]api.Arg {
	var out [][]api.Arg
	for n := range list {
		turned := slices.Concat(list[n:], list[:n])
		back := slices.Clone(turned)
		slices.Reverse(back)
		out = append(out, turned, back)
	}
	return out
}

func TestP21_1AnyOrder(t *testing.T) {
	for _, k := range known {
		one := filled(t)
		c := call(k.name)
		want := show(igd.Do(one, c)) + look(one.Set)
		for _, turned := range turns(c.Args) {
			other := filled(t)
			c.Args = turned
			if got := show(igd.Do(other, c)) + look(other.Set); got != want {
				t.Errorf("%q: %s, not %s", c, got, want)
			}
		}
	}
}

// kinds gives texts that are of an argument's kind, and such that aren't.
func kinds(name string) (good, bad []string) {
	switch name {
	case "NewExternalPort", "NewInternalPort", "NewStartPort", "NewEndPort", "NewPortMappingIndex", "NewNumberOfPorts":
		return []string{"0", "1", "65535", "007", "0000000080"}, []string{"", "65536", "-1", "+1", " 1", "1 ", "x", "1x", "0x1", "00000000080", "1.0", "4294967296", "TCP", "\u0661"}
	case "NewLeaseDuration":
		return []string{"0", "1", "604800", "007", "0000000000"}, []string{"", "4294967296", "-1", "+1", " 1", "1 ", "x", "1x", "00000000001", "9999999999", "18446744073709551617"}
	case "NewRemoteHost", "NewInternalClient":
		return []string{"", "192.168.1.7", "0.0.0.0", "8.8.4.4", "255.255.255.255"}, []string{" ", "x", "192.168.1", "192.168.1.07", "192.168.1.256", "192.168.1.7 ", "*", "::1", "localhost", "3232235783"}
	case "NewProtocol":
		return []string{"TCP", "UDP"}, []string{"", "tcp", "udp", "Tcp", "6", "17", "ICMP", "TCP ", " TCP", "TCPUDP", "*"}
	case "NewEnabled", "NewManage":
		return []string{"1", "0", "true", "false", "yes", "no"}, []string{"", "True", "YES", "2", "01", " 1", "1 ", "on", "-1"}
	}
	return []string{"", "a", " ", "~", "a<b>&\"'", strings.Repeat("w", 64)}, []string{strings.Repeat("w", 65), "\x1f", "a\n", "\t", "\x7f", "\u00e9", "\x00", "\xff"}
}

func TestP21_1Kinds(t *testing.T) {
	for _, k := range known {
		for _, name := range k.args {
			good, bad := kinds(name)
			s := filled(t)
			for _, text := range bad {
				refused(t, name, s, call(k.name, name, text), 402)
			}
			if name == "NewConnectionType" {
				continue // All but one text is refused, whatever its kind.
			}
			for _, text := range good {
				if a, code := igd.Do(filled(t), call(k.name, name, text)); code == 402 {
					t.Errorf("%s: %s %q: %s", k.name, name, text, show(a, code))
				}
			}
		}
	}
}

// What is wrong with the arguments goes ahead of what the action would say, and the action ahead of those.
func TestP21_1ErrorsInOrder(t *testing.T) {
	s := filled(t)
	for _, action := range []string{"RequestTermination", "ForceTermination"} {
		refused(t, "refused", s, call(action), 606)
		c := call(action)
		c.Args = args("NewManage", "0")
		refused(t, "too many", s, c, 402)
		c.Service = "urn:x"
		refused(t, "no service", s, c, 401)
	}
	refused(t, "a kind, and To", s, call("AddPortMapping", "NewInternalPort", "0", "NewEnabled", "x"), 402)
	refused(t, "To", s, call("AddPortMapping", "NewInternalPort", "0"), 732)
	refused(t, "a kind that plays no part, and a range turned about", s, call("GetListOfPortMappings", "NewStartPort", "2", "NewEndPort", "1", "NewManage", "x"), 402)
	refused(t, "a range turned about", s, call("GetListOfPortMappings", "NewStartPort", "2", "NewEndPort", "1"), 733)
	refused(t, "a kind that plays no part, and none there", s, call("DeletePortMappingRange", "NewStartPort", "7", "NewEndPort", "7", "NewManage", ""), 402)
	refused(t, "none there", s, call("DeletePortMappingRange", "NewStartPort", "7", "NewEndPort", "7"), 730)
}

func TestP21_1Connection(t *testing.T) {
	s := scene(3)
	answers(t, "type", s, call("SetConnectionType"))
	for _, other := range []string{"", "IP_routed", "Unconfigured", "IP_Bridged", "IP_Routed ", " IP_Routed", "IP_Route", "IP_RoutedIP_Routed", "\x00"} {
		refused(t, "type", s, call("SetConnectionType", "NewConnectionType", other), 402)
	}
	answers(t, "types", s, call("GetConnectionTypeInfo"), "NewConnectionType", "IP_Routed", "NewPossibleConnectionTypes", "IP_Routed")
	answers(t, "connection", s, call("RequestConnection"))
	answers(t, "NAT", s, call("GetNATRSIPStatus"), "NewRSIPAvailable", "0", "NewNATEnabled", "1")
	for now, text := range map[uint64]string{0: "0", 100: "100", math.MaxUint32 + 1: "4294967296", math.MaxUint64: "18446744073709551615"} {
		answers(t, "status", by(s, a7, now), call("GetStatusInfo"), "NewConnectionStatus", "Connected", "NewLastConnectionError", "ERROR_NONE", "NewUptime", text)
	}
	for a, text := range map[api.Addr]string{0xcb007105: "203.0.113.5", far: "8.8.4.4", 0: "", math.MaxUint32: "255.255.255.255"} {
		s.Conf.WanAddr = a
		answers(t, "address", s, call("GetExternalIPAddress"), "NewExternalIPAddress", text)
	}
	if now := look(s.Set); now != look(maps.New(s.Conf)) {
		t.Error("it has changed:", now)
	}
}

// Whoever asks is told, an address of no host too.
func TestP21_1Tells(t *testing.T) {
	s := filled(t)
	answers(t, "by .7", by(s, a7, 110), call("GetGenericPortMappingEntry"),
		"NewRemoteHost", "", "NewExternalPort", "80", "NewProtocol", "TCP", "NewInternalPort", "8080", "NewInternalClient", "192.168.1.7", "NewEnabled", "1", "NewPortMappingDescription", "web", "NewLeaseDuration", "50")
	answers(t, "by nobody", by(s, far, 110), call("GetGenericPortMappingEntry", "NewPortMappingIndex", "1"),
		"NewRemoteHost", "8.8.4.4", "NewExternalPort", "5000", "NewProtocol", "UDP", "NewInternalPort", "6000", "NewInternalClient", "192.168.1.8", "NewEnabled", "0", "NewPortMappingDescription", "a<b", "NewLeaseDuration", "604790")
	for _, index := range []string{"2", "3", "65535"} {
		refused(t, "index", s, call("GetGenericPortMappingEntry", "NewPortMappingIndex", index), 713)
	}
	answers(t, "by .8", by(s, a8, 100), call("GetSpecificPortMappingEntry"),
		"NewInternalPort", "8080", "NewInternalClient", "192.168.1.7", "NewEnabled", "1", "NewPortMappingDescription", "web", "NewLeaseDuration", "60")
	answers(t, "of one sender", s, call("GetSpecificPortMappingEntry", "NewRemoteHost", "8.8.4.4", "NewExternalPort", "05000", "NewProtocol", "UDP"),
		"NewInternalPort", "6000", "NewInternalClient", "192.168.1.8", "NewEnabled", "0", "NewPortMappingDescription", "a<b", "NewLeaseDuration", "604800")
	for _, other := range [][]string{{"NewRemoteHost", "8.8.4.4"}, {"NewExternalPort", "81"}, {"NewExternalPort", "0"}, {"NewExternalPort", "8080"}, {"NewProtocol", "UDP"}} {
		refused(t, "key", s, call("GetSpecificPortMappingEntry", other...), 714)
	}
}

func TestP21_1SecondsLeft(t *testing.T) {
	s := filled(t)
	for now, want := range map[uint64]string{0: "160", 100: "60", 159: "1", 160: "0", 161: "0", math.MaxUint64: "0"} {
		a, code := igd.Do(by(s, a7, now), call("GetSpecificPortMappingEntry"))
		if left, _ := soap.Find(a.Args, "NewLeaseDuration"); left != want || code != 0 {
			t.Errorf("at %d: %s, not %s", now, show(a, code), want)
		}
	}
	last := by(s, a7, math.MaxUint64-5)
	answers(t, "late", last, call("AddPortMapping"))
	a, _ := igd.Do(last, call("GetSpecificPortMappingEntry"))
	if left, _ := soap.Find(a.Args, "NewLeaseDuration"); left != "5" {
		t.Errorf("at the end of time: %q", left)
	}
}

func TestP21_1Add(t *testing.T) {
	s := scene(2, api.Forward{Proto: api.TCP, Port: 22, To: 22, Host: a9})
	answers(t, "added", s, call("AddPortMapping", "NewRemoteHost", "8.8.4.4", "NewEnabled", "no", "NewPortMappingDescription", "x&y"))
	want := api.Entry{Mapping: api.Mapping{Proto: api.TCP, Ext: 80, To: 8080, Remote: far, Host: a7}, Words: "x&y", Ends: 160}
	if e, code := s.Set.At(0); e != want || code != 0 || s.Set.Len() != 1 {
		t.Errorf("%v, %d, not %v", e, code, want)
	}
	refused(t, "internal port", s, call("AddPortMapping", "NewInternalPort", "0", "NewExternalPort", "0"), 732)
	refused(t, "external port", s, call("AddPortMapping", "NewExternalPort", "0", "NewInternalClient", "192.168.1.8"), 716)
	for _, client := range []string{"192.168.1.8", "", "0.0.0.0", "8.8.4.4", "192.168.1.1"} {
		refused(t, "client", s, call("AddPortMapping", "NewInternalClient", client, "NewLeaseDuration", "604801"), 606)
	}
	refused(t, "no host", by(s, 0, 0), call("AddPortMapping", "NewInternalClient", ""), 606)
	refused(t, "no host", by(s, far, 0), call("AddPortMapping", "NewInternalClient", "8.8.4.4"), 606)
	for _, lease := range []string{"604801", "4294967295"} {
		refused(t, "lease", s, call("AddPortMapping", "NewLeaseDuration", lease, "NewExternalPort", "22"), 402)
	}
	refused(t, "forward", s, call("AddPortMapping", "NewExternalPort", "22"), 729)
	refused(t, "another one's", by(s, a8, 100), call("AddPortMapping", "NewInternalClient", "192.168.1.8"), 718)
	refused(t, "another port", s, call("AddPortMapping", "NewInternalPort", "81"), 718)
	answers(t, "renewed for a week", by(s, a7, 200), call("AddPortMapping", "NewRemoteHost", "8.8.4.4", "NewLeaseDuration", "0"))
	answers(t, "one more", s, call("AddPortMapping", "NewProtocol", "UDP", "NewLeaseDuration", "604800"))
	refused(t, "one too many", s, call("AddPortMapping"), 728)
	for i, ends := range []uint64{605000, 604900} {
		if e, _ := s.Set.At(uint64(i)); e.Ends != ends || !e.Enabled || e.Words != "web" {
			t.Errorf("%d: %v", i, e)
		}
	}
}

func TestP21_1AddAny(t *testing.T) {
	s := scene(3, api.Forward{Proto: api.TCP, Port: 22, To: 22, Host: a9})
	answers(t, "as asked for", s, call("AddAnyPortMapping", "NewRemoteHost", "8.8.4.4", "NewEnabled", "false"), "NewReservedPort", "80")
	want := api.Entry{Mapping: api.Mapping{Proto: api.TCP, Ext: 80, To: 8080, Remote: far, Host: a7}, Words: "web", Ends: 160}
	if e, code := s.Set.At(0); e != want || code != 0 || s.Set.Len() != 1 {
		t.Errorf("%v, %d, not %v", e, code, want)
	}
	answers(t, "another one's", by(s, a8, 100), call("AddAnyPortMapping", "NewInternalClient", "192.168.1.8"), "NewReservedPort", "1024")
	refused(t, "internal port", s, call("AddAnyPortMapping", "NewInternalPort", "0"), 732)
	refused(t, "client", s, call("AddAnyPortMapping", "NewInternalClient", "192.168.1.8"), 606)
	refused(t, "lease", s, call("AddAnyPortMapping", "NewLeaseDuration", "604801"), 402)
	answers(t, "any", s, call("AddAnyPortMapping", "NewExternalPort", "0"), "NewReservedPort", "1025")
	refused(t, "one too many", s, call("AddAnyPortMapping", "NewExternalPort", "22"), 728)
	answers(t, "renewed", by(s, a7, 300), call("AddAnyPortMapping", "NewExternalPort", "1025"), "NewReservedPort", "1025")
	if e, _ := s.Set.At(2); e.Ends != 360 {
		t.Errorf("%v", e)
	}
	answers(t, "a forward's", scene(1, api.Forward{Proto: api.TCP, Port: 22, To: 22, Host: a9}), call("AddAnyPortMapping", "NewExternalPort", "22"), "NewReservedPort", "1024")
}

func TestP21_1Delete(t *testing.T) {
	s := filled(t)
	for _, other := range [][]string{{"NewRemoteHost", "8.8.4.4"}, {"NewExternalPort", "81"}, {"NewExternalPort", "0"}, {"NewProtocol", "UDP"}} {
		refused(t, "none", s, call("DeletePortMapping", other...), 714)
	}
	theirs := call("DeletePortMapping", "NewRemoteHost", "8.8.4.4", "NewExternalPort", "5000", "NewProtocol", "UDP")
	refused(t, "another one's", s, theirs, 606)
	answers(t, "its own", s, call("DeletePortMapping"))
	refused(t, "gone", s, call("DeletePortMapping"), 714)
	answers(t, "their own", by(s, a8, 100), theirs)
	if s.Set.Len() != 0 || s.Set.Update() != 4 {
		t.Error(look(s.Set))
	}
}

func TestP21_1DeleteRange(t *testing.T) {
	s := filled(t)
	answers(t, "some more", s, call("AddPortMapping", "NewExternalPort", "90"))
	answers(t, "some more", s, call("AddPortMapping", "NewExternalPort", "91"))
	answers(t, "another one's", by(s, a8, 100), call("AddPortMapping", "NewExternalPort", "85", "NewInternalClient", "192.168.1.8"))
	refused(t, "turned about", s, call("DeletePortMappingRange", "NewStartPort", "91", "NewEndPort", "90"), 733)
	for _, other := range [][]string{{"NewStartPort", "92"}, {"NewEndPort", "79"}, {"NewStartPort", "81", "NewEndPort", "89"}, {"NewProtocol", "UDP"}, {"NewStartPort", "0", "NewEndPort", "0"}} {
		refused(t, "none", s, call("DeletePortMappingRange", other...), 730)
	}
	answers(t, "two", s, call("DeletePortMappingRange", "NewStartPort", "80", "NewEndPort", "90", "NewManage", "1"))
	var left []uint16
	for e := range s.Set.All() {
		left = append(left, e.Ext)
	}
	if !slices.Equal(left, []uint16{85, 91, 5000}) {
		t.Error(left)
	}
	answers(t, "NewManage plays no part", s, call("DeletePortMappingRange", "NewStartPort", "0"))
	if s.Set.Len() != 2 {
		t.Error(look(s.Set))
	}
}

// listing gives what NewPortListing is to be of these entries.
func listing(entries ...string) string {
	return `<p:PortMappingList xmlns:p="urn:schemas-upnp-org:gw:WANIPConnection">` + strings.Join(entries, "") + "</p:PortMappingList>"
}

// entry gives what it is of one mapping of TCP, of .7 to 8080 for a minute.
func entry(remote string, ext int, words string) string {
	return fmt.Sprintf("<p:PortMappingEntry><p:NewRemoteHost>%s</p:NewRemoteHost><p:NewExternalPort>%d</p:NewExternalPort><p:NewProtocol>TCP</p:NewProtocol><p:NewInternalPort>8080</p:NewInternalPort><p:NewInternalClient>192.168.1.7</p:NewInternalClient><p:NewEnabled>1</p:NewEnabled><p:NewDescription>%s</p:NewDescription><p:NewLeaseTime>60</p:NewLeaseTime></p:PortMappingEntry>", remote, ext, words)
}

func TestP21_1List(t *testing.T) {
	s := scene(20)
	refused(t, "none", s, call("GetListOfPortMappings"), 730)
	answers(t, "with marks", s, call("AddPortMapping", "NewRemoteHost", "8.8.4.4", "NewPortMappingDescription", `<a href="x">&amp;'`))
	answers(t, "one", s, call("GetListOfPortMappings"), "NewPortListing", listing(entry("8.8.4.4", 80, "&lt;a href=&quot;x&quot;&gt;&amp;amp;'")))
	answers(t, "to nobody", by(s, far, 100), call("GetListOfPortMappings"), "NewPortListing", listing(entry("8.8.4.4", 80, "&lt;a href=&quot;x&quot;&gt;&amp;amp;'")))
	answers(t, "renewed", s, call("AddPortMapping", "NewRemoteHost", "8.8.4.4", "NewPortMappingDescription", ""))
	want := []string{entry("8.8.4.4", 80, "")}
	for ext := 81; ext < 92; ext++ {
		answers(t, "one more", s, call("AddPortMapping", "NewExternalPort", fmt.Sprint(ext)))
		want = append(want, entry("", ext, "web"))
	}
	for most, n := range map[string]int{"0": 8, "1": 1, "2": 2, "7": 7, "8": 8, "9": 8, "12": 8, "65535": 8} {
		answers(t, "most "+most, s, call("GetListOfPortMappings", "NewNumberOfPorts", most, "NewManage", "1"), "NewPortListing", listing(want[:n]...))
	}
	answers(t, "a part", s, call("GetListOfPortMappings", "NewStartPort", "82", "NewEndPort", "84"), "NewPortListing", listing(want[2:5]...))
	answers(t, "the last ones", s, call("GetListOfPortMappings", "NewStartPort", "90"), "NewPortListing", listing(want[10:]...))
	refused(t, "turned about", s, call("GetListOfPortMappings", "NewStartPort", "84", "NewEndPort", "82"), 733)
	refused(t, "behind them", s, call("GetListOfPortMappings", "NewStartPort", "92"), 730)
	refused(t, "of no one", s, call("GetListOfPortMappings", "NewProtocol", "UDP"), 730)
	answers(t, "another one's, off", by(s, a8, 100), call("AddPortMapping", "NewProtocol", "UDP", "NewInternalClient", "192.168.1.8", "NewEnabled", "0"))
	answers(t, "ended", by(s, a7, 161), call("GetListOfPortMappings", "NewProtocol", "UDP"), "NewPortListing",
		listing(strings.NewReplacer("TCP", "UDP", ".7<", ".8<", "<p:NewEnabled>1", "<p:NewEnabled>0", ">60<", ">0<").Replace(entry("", 80, "web"))))
	a, _ := igd.Do(s, call("GetListOfPortMappings"))
	if e, fault := xml.Parse([]byte(a.Args[0].Value)); fault != api.ErrFull { // 8 mappings are more elements than it reads.
		t.Errorf("%v, %v", e, fault)
	}
	a, _ = igd.Do(s, call("GetListOfPortMappings", "NewNumberOfPorts", "7"))
	if e, fault := xml.Parse([]byte(a.Args[0].Value)); fault != api.OK || len(e.Kids) != 7 || e.Kids[6].Kids[1].Text != "86" {
		t.Errorf("%v, %v", e, fault)
	}
}

// Answers stand in envelopes, and are the same behind them.
func TestP21_1InEnvelopes(t *testing.T) {
	s := filled(t)
	for _, k := range known {
		a, code := igd.Do(s, call(k.name))
		if code != 0 {
			continue
		}
		b, fault := soap.Encode(a)
		if fault != api.OK {
			t.Errorf("%s: %v", k.name, fault)
		}
		if back, fault := soap.Decode(b); fault != api.OK || show(back, 0) != show(a, 0) {
			t.Errorf("%s: %s, %v, not %s", k.name, show(back, 0), fault, show(a, 0))
		}
	}
}

func TestP21_2Words(t *testing.T) {
	words := map[int]string{
		401: "Invalid Action", 402: "Invalid Args", 501: "Action Failed", 606: "Action not authorized",
		713: "SpecifiedArrayIndexInvalid", 714: "NoSuchEntryInArray", 716: "WildCardNotPermittedInExtPort", 718: "ConflictInMappingEntry",
		728: "NoPortMapsAvailable", 729: "ConflictWithOtherMechanisms", 730: "PortMappingNotFound", 732: "WildCardNotPermittedInIntPort", 733: "InconsistentParameters",
	}
	for code := -1100; code < 1100; code++ {
		want, ok := words[code]
		if !ok {
			want = "Error"
		}
		if got := igd.Words(code); got != want {
			t.Errorf("%d: %q, not %q", code, got, want)
		}
	}
	for _, code := range []int{math.MinInt, math.MaxInt, 401 + 1<<32} {
		if got := igd.Words(code); got != "Error" {
			t.Errorf("%d: %q", code, got)
		}
	}
}

func TestP21_3Vars(t *testing.T) {
	s := scene(9)
	is := func(address, update, count string) {
		t.Helper()
		want := args("PossibleConnectionTypes", "IP_Routed", "ConnectionStatus", "Connected", "ExternalIPAddress", address, "SystemUpdateID", update, "PortMappingNumberOfEntries", count)
		if got := igd.Vars(s.Set, s.Conf); !slices.Equal(got, want) {
			t.Errorf("%q, not %q", got, want)
		}
	}
	is("203.0.113.5", "0", "0")
	answers(t, "one", s, call("AddPortMapping"))
	is("203.0.113.5", "1", "1")
	answers(t, "renewed", s, call("AddPortMapping"))
	is("203.0.113.5", "2", "1")
	answers(t, "two", s, call("AddAnyPortMapping", "NewExternalPort", "0"), "NewReservedPort", "1024")
	is("203.0.113.5", "3", "2")
	refused(t, "none", s, call("DeletePortMapping", "NewExternalPort", "81"), 714)
	is("203.0.113.5", "3", "2")
	answers(t, "both", s, call("DeletePortMappingRange"))
	is("203.0.113.5", "4", "0")
	s.Conf.WanAddr = far
	is("8.8.4.4", "4", "0")
	s.Conf.WanAddr = 0
	is("", "4", "0")
	s.Conf.MaxMaps = 0
	s.Set = nil
	is("", "0", "0")
}

// first gives the text of the first element of that name in a tree.
func first(e api.Element, name string) string {
	for _, x := range xml.All(e) {
		if x.Name == name {
			return x.Text
		}
	}
	return "none"
}

// strict wants a text to be XML by another reader's lights, too.
func strict(t *testing.T, b []byte) {
	t.Helper()
	var all struct {
		Inner string `xml:",innerxml"`
	}
	if err := encoding.Unmarshal(b, &all); err != nil {
		t.Errorf("%q: %v", b, err)
	}
}

func TestP21_4Device(t *testing.T) {
	for _, u := range []string{uuid, "ffffffff-ffff-ffff-ffff-ffffffffffff", "", "a<b>&\"'", "</UDN>", "]]>", "\r\n\t ", "\xff", "\u00e9", strings.Repeat("u", 4000)} {
		c := config(1)
		c.UUID = u
		e, fault := xml.Parse(igd.Device(c))
		if fault != api.OK || e.Name != "root" {
			t.Fatalf("%.40q: %v, %v", u, e, fault)
		}
		for name, want := range map[string]string{"UDN": "uuid:" + u, "serviceType": service, "SCPDURL": "/ipc.xml", "controlURL": "/ctl/ipc", "eventSubURL": "/evt/ipc"} {
			if got := first(e, name); got != want {
				t.Errorf("%.40q: %s: %q, not %q", u, name, got, want)
			}
		}
		for _, x := range xml.All(e) {
			if x.Space != "urn:schemas-upnp-org:device-1-0" {
				t.Errorf("%s: of the space %q", x.Name, x.Space)
			}
		}
	}
	strict(t, igd.Device(config(1)))
	if one, two := igd.Device(config(1)), igd.Device(api.Config{UUID: uuid}); !bytes.Equal(one, two) {
		t.Errorf("%s\n%s", one, two)
	}
}

func TestP21_4Actions(t *testing.T) {
	e, fault := xml.Parse(igd.Actions())
	if fault != api.OK || e.Name != "scpd" {
		t.Fatalf("%v, %v", e, fault)
	}
	for _, x := range xml.All(e) {
		if x.Space != "urn:schemas-upnp-org:service-1-0" {
			t.Errorf("%s: of the space %q", x.Name, x.Space)
		}
	}
	var names []string
	for _, list := range e.Kids {
		if list.Name != "actionList" {
			continue
		}
		for _, a := range list.Kids {
			if a.Name != "action" || a.Kids[0].Name != "name" {
				t.Errorf("%v", a)
			}
			names = append(names, a.Kids[0].Text)
		}
	}
	var want []string
	for _, k := range known {
		want = append(want, k.name)
	}
	if !slices.Equal(names, want) {
		t.Errorf("%q, not %q", names, want)
	}
	strict(t, igd.Actions())
}

// Neither what is handed in, nor the room behind it, is changed; what is told of it stays when it is.
func TestP21_5HandedIn(t *testing.T) {
	s := filled(t)
	s.Conf.Forwards = make([]api.Forward, 1, 3)
	for _, k := range known {
		c := call(k.name)
		c.Args = append(c.Args, make([]api.Arg, 3)...)[:len(k.args)]
		room, forwards := slices.Clone(c.Args[:cap(c.Args)]), slices.Clone(s.Conf.Forwards[:3])
		a, code := igd.Do(s, c)
		want := show(a, code) + look(s.Set)
		if !slices.Equal(c.Args[:cap(c.Args)], room) || !slices.Equal(s.Conf.Forwards[:3], forwards) {
			t.Errorf("%s: %v", k.name, c.Args)
		}
		clear(c.Args[:cap(c.Args)])
		if got := show(a, code) + look(s.Set); got != want {
			t.Errorf("%s: %s, not %s", k.name, got, want)
		}
	}
}

func TestP21_5AnswersAreNew(t *testing.T) {
	s := filled(t)
	for _, k := range known {
		if k.name == "DeletePortMapping" || k.name == "DeletePortMappingRange" {
			continue // A second one would have another answer.
		}
		one, _ := igd.Do(s, call(k.name))
		two, code := igd.Do(s, call(k.name))
		want := show(two, code)
		clear(one.Args[:cap(one.Args)])
		if got := show(two, code); got != want {
			t.Errorf("%s, not %s", got, want)
		}
	}
	vars := igd.Vars(s.Set, s.Conf)
	clear(vars[:cap(vars)])
	if got := igd.Vars(s.Set, s.Conf); got[4].Value != "2" {
		t.Errorf("%v", got)
	}
	for _, text := range []func() []byte{igd.Actions, func() []byte { return igd.Device(s.Conf) }} {
		want := string(text())
		one, two := text(), text()
		clear(one[:cap(one)])
		if string(two) != want || string(text()) != want {
			t.Errorf("%s, not %s", two, want)
		}
	}
}
