package soap_test

import (
	"fmt"
	"math"
	"slices"
	"strings"
	"testing"

	"hearth/api"
	"hearth/soap"
)

// The signatures that the chapter lists.
var (
	_ func([]byte) (api.Call, api.Errno)     = soap.Decode
	_ func(api.Call) ([]byte, api.Errno)     = soap.Encode
	_ func(int, string) []byte               = soap.Fault
	_ func([]byte) (int, bool)               = soap.Code
	_ func(string) (string, string, bool)    = soap.Header
	_ func([]api.Arg, string) (string, bool) = soap.Find
)

const env = "http://schemas.xmlsoap.org/soap/envelope/"

// show gives a call as a text.
func show(c api.Call) string {
	s := c.Service + "#" + c.Action
	for _, a := range c.Args {
		s += fmt.Sprintf(" %s=%q", a.Name, a.Value)
	}
	return s
}

// same tells whether two calls are one.
func same(a, b api.Call) bool {
	return a.Service == b.Service && a.Action == b.Action && slices.Equal(a.Args, b.Args)
}

// enveloped gives an envelope with that in it.
func enveloped(s string) string {
	return "<s:Envelope xmlns:s='" + env + "'>" + s + "</s:Envelope>"
}

// body gives an envelope with that in its Body.
func body(s string) string { return enveloped("<s:Body>" + s + "</s:Body>") }

// args gives the elements of so many arguments.
func args(n int) string {
	s := ""
	for i := range n {
		s += fmt.Sprintf("<A%d>%d</A%d>", i, i, i)
	}
	return s
}

func TestP18_1Decode(t *testing.T) {
	sixteen := ""
	for i := range 16 {
		sixteen += fmt.Sprintf(" A%d=%q", i, fmt.Sprint(i))
	}
	for _, c := range [][2]string{
		{body("<u:Get xmlns:u='urn:s'><A>1</A><B></B></u:Get>"), `urn:s#Get A="1" B=""`},
		{body("<Get xmlns='urn:s'/>"), "urn:s#Get"},
		{body("<Get xmlns='urn:s'><A/></Get>"), `urn:s#Get A=""`},
		{body("<Get xmlns='urn:s'><B>2</B><A>1</A></Get>"), `urn:s#Get B="2" A="1"`},
		{body("<Get xmlns='urn:s'><A> a &amp; <![CDATA[<b>]]><!--c-->\r\n</A></Get>"), `urn:s#Get A=" a & <b>\r\n"`},
		{body("<u:Get xmlns:u='urn:s' x='1' u:y='2'><A z='3'>1</A></u:Get>"), `urn:s#Get A="1"`},
		{body("<u:Get xmlns:u='urn:s'>t<A>1</A>\x7fu</u:Get>"), `urn:s#Get A="1"`},
		{body("<u:Get xmlns:u='urn:s'><v:A xmlns:v='w'>1</v:A><B>2</B><s:C>3</s:C></u:Get>"), `urn:s#Get A="1" B="2" C="3"`},
		{body("<u:Get xmlns:u='urn:s'><A>1</A><a>2</a></u:Get>"), `urn:s#Get A="1" a="2"`},
		{body("<Get xmlns=' '/>"), " #Get"},
		{body("<s:Fault><a/></s:Fault>"), env + `#Fault a=""`},
		{body("<Get xmlns='urn:s'>" + args(16) + "</Get>"), "urn:s#Get" + sixteen},
		{"<?xml version=\"1.0\"?>\r\n<!--c-->" + enveloped(" \t\r\n<!--c--><s:Body>\r\n<Get xmlns='u'/>\t<!--c--></s:Body>\n"), "u#Get"},
		{enveloped("&#32;<s:Body><![CDATA[\n ]]><Get xmlns='u'/>&#13;</s:Body><![CDATA[]]>"), "u#Get"},
		{enveloped("<s:Header/><s:Body><Get xmlns='u'/></s:Body>"), "u#Get"},
		{enveloped(" <s:Header a='1'>t<x><y/></x><x/>\x7f</s:Header> <s:Body><Get xmlns='u'/></s:Body> "), "u#Get"},
		{enveloped("<s:Header><s:Body/></s:Header><s:Body><Get xmlns='u'/></s:Body>"), "u#Get"},
		{"<Envelope xmlns='" + env + "' x='1'><Body y='2'><Get xmlns='u'><A xmlns=''>1</A></Get></Body></Envelope>", `u#Get A="1"`},
		{"<Envelope xmlns='" + env + "'><Header/><Body><Get><A/></Get></Body></Envelope>", env + `#Get A=""`},
		{"<a:Envelope xmlns:a='" + env + "' a:encodingStyle='x'><b:Header xmlns:b='" + env + "'/><c:Body xmlns:c='" + env + "'><Get xmlns='u'/></c:Body></a:Envelope>", "u#Get"},
	} {
		got, fault := soap.Decode([]byte(c[0]))
		if fault != api.OK || show(got) != c[1] {
			t.Errorf("%.200q: %.100s, %v, not %.100s", c[0], show(got), fault, c[1])
		}
	}
}

func TestP18_1Wrong(t *testing.T) {
	const get = "<Get xmlns='u'/>"
	for _, s := range []string{
		"", "x", "<a/>", get, "<Envelope/>", "<s:Envelope><s:Body>" + get + "</s:Body></s:Envelope>",
		enveloped(""), enveloped(get), enveloped("<s:Header/>"), enveloped("<s:Body/>"), enveloped("<s:Header/><s:Body/>"),
		enveloped("<s:Body>" + get + "</s:Body><s:Body>" + get + "</s:Body>"), enveloped("<s:Body>" + get + "</s:Body><s:Header/>"), enveloped("<s:Header/><s:Header/><s:Body>" + get + "</s:Body>"), enveloped("<s:Header/><s:Body>" + get + "</s:Body><s:Body>" + get + "</s:Body>"), enveloped("<s:Header/><s:Body>" + get + "</s:Body><x/>"), enveloped("<s:Header/>" + get), enveloped("<x/><s:Body>" + get + "</s:Body>"), enveloped("<s:Body>" + get + "</s:Body><x/>"),
		enveloped("<Header/><s:Body>" + get + "</s:Body>"), enveloped("<Body>" + get + "</Body>"), enveloped("<x:Header xmlns:x='y'/><s:Body>" + get + "</s:Body>"), enveloped("<x:Body xmlns:x='y'>" + get + "</x:Body>"), enveloped("<s:body>" + get + "</s:body>"), enveloped("<s:header/><s:Body>" + get + "</s:Body>"),
		"<Envelope><s:Body xmlns:s='" + env + "'>" + get + "</s:Body></Envelope>", strings.Replace(body(get), env, "http://www.w3.org/2003/05/soap-envelope", 1), strings.Replace(body(get), env, strings.TrimSuffix(env, "/"), 1), strings.ReplaceAll(body(get), "Envelope", "envelope"), strings.ReplaceAll(body(get), "Envelope", "Body"),
		enveloped("t<s:Body>" + get + "</s:Body>"), enveloped("<s:Body>" + get + "</s:Body>t"), enveloped("&#65;<s:Body>" + get + "</s:Body>"), enveloped("<s:Body>t" + get + "</s:Body>"), enveloped("<s:Body>" + get + "<![CDATA[t]]></s:Body>"), enveloped("\u00a0<s:Body>" + get + "</s:Body>"), enveloped("<s:Header/>t<s:Body>" + get + "</s:Body>"), enveloped("<s:Body> . " + get + "</s:Body>"),
		body(get + get), body(get + "<s:Fault/>"), body("<Get/>"), body("<Get xmlns=''><A/></Get>"),
		body("<Get xmlns='u'>" + args(17) + "</Get>"), body("<Get xmlns='u'>" + args(40) + "</Get>"),
		body("<Get xmlns='u'><A/><A/></Get>"), body("<Get xmlns='u'><A>1</A><B/><A>2</A></Get>"), body("<Get xmlns='u'><A/><B/><v:B xmlns:v='w'/></Get>"), body("<Get xmlns='u'>" + args(15) + "<A0/></Get>"),
		body("<Get xmlns='u'><A><B/></A></Get>"), body("<Get xmlns='u'><A/><B>1<C/></B></Get>"),
		"<!DOCTYPE x>" + body(get), body(get) + "x", body("<Get xmlns='u'><A>&x;</A></Get>"), body("<u:Get/>"), body("<Get xmlns='u'><A>\x01</A></Get>"),
	} {
		if c, fault := soap.Decode([]byte(s)); fault != api.ErrForm || !same(c, api.Call{}) {
			t.Errorf("%.200q: %.80s, %v", s, show(c), fault)
		}
	}
}

// What layer 17 says comes ahead of all else.
func TestP18_1Errors(t *testing.T) {
	for _, c := range []struct {
		s    string
		want api.Errno
	}{
		{body("<Get xmlns='u'><A>" + strings.Repeat("x", 8192) + "</A></Get>"), api.ErrLong},
		{strings.Repeat("x", 8193), api.ErrLong},
		{strings.Repeat("x", 8192), api.ErrForm},
		{body("<Get xmlns='u'>" + args(62) + "</Get>"), api.ErrFull},
		{body("<Get xmlns='u'>" + args(61) + "</Get>"), api.ErrForm},
		{enveloped("<s:Header>" + args(62) + "</s:Header><s:Body/>"), api.ErrFull},
		{body(strings.Repeat("<a>", 7) + strings.Repeat("</a>", 7)), api.ErrFull},
		{body(strings.Repeat("<a>", 6) + strings.Repeat("</a>", 6)), api.ErrForm},
		{body(strings.Repeat("<a>", 7) + "&x;" + strings.Repeat("</a>", 7)), api.ErrForm},
	} {
		if got, fault := soap.Decode([]byte(c.s)); fault != c.want || !same(got, api.Call{}) {
			t.Errorf("%.100q: %v, not %v", c.s, fault, c.want)
		}
	}
}

// call gives a call with arguments that are told by name and value.
func call(service, action string, texts ...string) api.Call {
	c := api.Call{Service: service, Action: action}
	for i := 0; i < len(texts); i += 2 {
		c.Args = append(c.Args, api.Arg{Name: texts[i], Value: texts[i+1]})
	}
	return c
}

// numbered gives a call with so many arguments.
func numbered(n int) api.Call {
	c := api.Call{Service: "u", Action: "a"}
	for i := range n {
		c.Args = append(c.Args, api.Arg{Name: fmt.Sprint("A", i), Value: fmt.Sprint(i)})
	}
	return c
}

const (
	begins = `<Envelope xmlns="http://schemas.xmlsoap.org/soap/envelope/" xmlns:p0="http://schemas.xmlsoap.org/soap/envelope/" p0:encodingStyle="http://schemas.xmlsoap.org/soap/encoding/"><Body xmlns="http://schemas.xmlsoap.org/soap/envelope/">`
	ends   = `</Body></Envelope>`
)

func TestP18_2Encode(t *testing.T) {
	sixteen := ""
	for i := range 16 {
		sixteen += fmt.Sprintf(`<A%d xmlns="">%d</A%d>`, i, i, i)
	}
	for _, c := range []struct {
		c    api.Call
		want string
	}{
		{call("urn:s", "Get"), `<Get xmlns="urn:s"></Get>`},
		{call("urn:s", "Get", "A", "1", "B", ""), `<Get xmlns="urn:s"><A xmlns="">1</A><B xmlns=""></B></Get>`},
		{call("urn:s", "Get", "B", "1", "A", "1", "a", "\xff"), `<Get xmlns="urn:s"><B xmlns="">1</B><A xmlns="">1</A><a xmlns="">` + "\xff</a></Get>"},
		{call("u&<>\"'", "_", "A", "<&>\"'\t\r\n"), "<_ xmlns=\"u&amp;&lt;&gt;&quot;'\"><A xmlns=\"\">&lt;&amp;&gt;&quot;'\t&#13;\n</A></_>"},
		{call(" ", "Get"), `<Get xmlns=" "></Get>`},
		{call(env, "Fault"), `<Fault xmlns="http://schemas.xmlsoap.org/soap/envelope/"></Fault>`},
		{numbered(16), `<a xmlns="u">` + sixteen + "</a>"},
	} {
		b, fault := soap.Encode(c.c)
		if want := begins + c.want + ends; fault != api.OK || string(b) != want {
			t.Errorf("%.100s: %q, %v, not %q", show(c.c), b, fault, want)
		}
		if back, fault := soap.Decode(b); fault != api.OK || !same(back, c.c) {
			t.Errorf("%.100s: Decode gives %.100s, %v", show(c.c), show(back), fault)
		}
	}
}

func TestP18_2Errors(t *testing.T) {
	long := strings.Repeat("x", 8192)
	for _, c := range []struct {
		c    api.Call
		want api.Errno
	}{
		{api.Call{}, api.ErrArg}, {call("", "Get"), api.ErrArg}, {call("", "", "", ""), api.ErrArg},
		{numbered(17), api.ErrArg}, {numbered(100000), api.ErrArg},
		{call("u", "a", "x", "1", "x", "1"), api.ErrArg}, {call("u", "a", "x", "1", "y", "", "x", "2"), api.ErrArg}, {call("u", "a", "", "", "", ""), api.ErrArg}, {call("u", "", "x", "\x01", "x", long), api.ErrArg},
		{call("u", ""), api.ErrForm}, {call("u", "1"), api.ErrForm}, {call("u", "a:b"), api.ErrForm}, {call("u", strings.Repeat("a", 65)), api.ErrForm}, {call("u\x00", "a"), api.ErrForm}, {call("u", "a", "", ""), api.ErrForm}, {call("u", "a", "x", "", "b c", ""), api.ErrForm}, {call("u", "a", "x", "\x1f"), api.ErrForm}, {call("u", "a", "x:y", long), api.ErrForm},
		{call("u", "a", "x", long), api.ErrLong}, {call(long, "a"), api.ErrLong}, {call("u", "a", "x", strings.Repeat("x", 8192-len(begins+`<a xmlns="u"><x xmlns=""></x></a>`+ends)+1)), api.ErrLong},
	} {
		if b, fault := soap.Encode(c.c); fault != c.want || len(b) != 0 {
			t.Errorf("%.100s: %.100q, %v, not %v", show(c.c), b, fault, c.want)
		}
	}
	b, fault := soap.Encode(call("u", "a", "x", strings.Repeat("x", 8192-len(begins+`<a xmlns="u"><x xmlns=""></x></a>`+ends))))
	if fault != api.OK || len(b) != 8192 {
		t.Errorf("just long enough: %d bytes, %v", len(b), fault)
	}
}

// faultText gives what Fault is to give.
func faultText(code, words string) string {
	const space = ` xmlns="urn:schemas-upnp-org:control-1-0">`
	return begins + `<Fault xmlns="http://schemas.xmlsoap.org/soap/envelope/"><faultcode xmlns="">s:Client</faultcode><faultstring xmlns="">UPnPError</faultstring><detail xmlns=""><UPnPError` + space + "<errorCode" + space + code + "</errorCode><errorDescription" + space + words + "</errorDescription></UPnPError></detail></Fault>" + ends
}

func TestP18_3Fault(t *testing.T) {
	for _, c := range []struct {
		code        int
		words       string
		told, wants string
		n           int
		ok          bool
	}{
		{728, "NoPortMapsAvailable", "728", "NoPortMapsAvailable", 728, true},
		{401, "Invalid Action", "401", "Invalid Action", 401, true},
		{0, "", "0", "", 0, true},
		{7, "&<>\"'\t\r\n", "7", "&amp;&lt;&gt;&quot;'\t&#13;\n", 7, true},
		{999, "\xff\u00e9", "999", "\xff\u00e9", 999, true},
		{1000, "x", "1000", "x", 0, false},
		{-1, "x", "-1", "x", 0, false},
		{math.MaxInt, "x", "9223372036854775807", "x", 0, false},
		{math.MinInt, "x", "-9223372036854775808", "x", 0, false},
		{501, strings.Repeat("x", 200), "501", strings.Repeat("x", 200), 501, true},
		{501, strings.Repeat("x", 201), "501", "Error", 501, true},
		{501, strings.Repeat("\"", 200), "501", strings.Repeat("&quot;", 200), 501, true},
		{501, strings.Repeat("x", 9000), "501", "Error", 501, true},
		{501, "\x00", "501", "Error", 501, true},
		{501, "Action\x1fFailed", "501", "Error", 501, true},
		{501, strings.Repeat("\x01", 300), "501", "Error", 501, true},
	} {
		b := soap.Fault(c.code, c.words)
		if want := faultText(c.told, c.wants); string(b) != want {
			t.Errorf("Fault(%d, %.30q): %q, not %q", c.code, c.words, b, want)
		}
		if n, ok := soap.Code(b); n != c.n || ok != c.ok {
			t.Errorf("Code of Fault(%d, %.30q): %d, %t", c.code, c.words, n, ok)
		}
	}
}

// failed gives an envelope with a Fault that has these elements; prefix c is that of control errors.
func failed(s string) string {
	return body("<s:Fault xmlns:c='urn:schemas-upnp-org:control-1-0'>" + s + "</s:Fault>")
}

// detailed gives an envelope with a Fault with a detail with a UPnPError that has these elements.
func detailed(s string) string {
	return failed("<detail><c:UPnPError>" + s + "</c:UPnPError></detail>")
}

func TestP18_3Code(t *testing.T) {
	const code = "<c:errorCode>718</c:errorCode>"
	for _, c := range []struct {
		s    string
		want int
	}{
		{detailed(code), 718},
		{detailed("<c:errorCode>0</c:errorCode>"), 0},
		{detailed("<c:errorCode>999</c:errorCode>"), 999},
		{detailed("<c:errorCode>0000007</c:errorCode>"), 7},
		{detailed("<c:errorCode>7<!-- -->1<![CDATA[8]]></c:errorCode>"), 718},
		{detailed("<c:errorCode x='1'>718<y/></c:errorCode>"), 718},
		{detailed("t<x/><errorCode>1</errorCode>" + code + "<c:errorCode>2</c:errorCode>u"), 718},
		{detailed("<c:errorDescription>x</c:errorDescription>" + code), 718},
		{failed("<faultcode>s:Client</faultcode><x/>t<detail>t<c:UPnPError>" + code + "</c:UPnPError></detail>"), 718},
		{failed("<c:detail/><s:detail/><detail><c:UPnPError>" + code + "</c:UPnPError></detail><detail/>"), 718},
		{enveloped("<s:Header/> <s:Body> <s:Fault><detail> <UPnPError xmlns='urn:schemas-upnp-org:control-1-0'><errorCode>501</errorCode></UPnPError></detail></s:Fault></s:Body>"), 501},
		{"<Envelope xmlns='" + env + "'><Body><Fault><detail xmlns=''><UPnPError xmlns='urn:schemas-upnp-org:control-1-0'>\n<errorCode>606</errorCode></UPnPError></detail></Fault></Body></Envelope>", 606},
	} {
		if n, ok := soap.Code([]byte(c.s)); n != c.want || !ok {
			t.Errorf("%.300q: %d, %t, not %d", c.s, n, ok, c.want)
		}
	}
	const right = "<detail><c:UPnPError>" + code + "</c:UPnPError></detail>"
	for _, s := range []string{
		"", "x", "<a/>", body("<a xmlns='u'/>"), body(""), enveloped(""), failed(""), failed("<detail/>"), failed("<detail>718</detail>"), detailed(""), detailed("718"), detailed("<x/>"),
		detailed("<c:errorCode/>"), detailed("<c:errorCode> 718</c:errorCode>"), detailed("<c:errorCode>718\n</c:errorCode>"), detailed("<c:errorCode>1000</c:errorCode>"), detailed("<c:errorCode>00000718</c:errorCode>"), detailed("<c:errorCode>-1</c:errorCode>"), detailed("<c:errorCode>2CE</c:errorCode>"), detailed("<c:errorCode>x</c:errorCode>"), detailed("<c:errorCode><x>718</x></c:errorCode>"),
		detailed("<c:errorCode>x</c:errorCode>" + code), detailed("<c:errorCode/>" + code), detailed("<errorCode>718</errorCode>"), detailed("<s:errorCode>718</s:errorCode>"), detailed("<c:errorcode>718</c:errorcode>"), detailed("<x>" + code + "</x>"),
		failed("<detail/>" + right), failed("<detail><c:UPnPError/></detail>" + right), failed("<detail><x/></detail>" + right), failed("<c:detail><c:UPnPError>" + code + "</c:UPnPError></c:detail>"), failed("<s:detail><c:UPnPError>" + code + "</c:UPnPError></s:detail>"), failed("<Detail><c:UPnPError>" + code + "</c:UPnPError></Detail>"), failed("<x>" + right + "</x>"),
		failed("<detail><c:UPnPError>" + code + "</c:UPnPError><x/></detail>"), failed("<detail><x/><c:UPnPError>" + code + "</c:UPnPError></detail>"), failed("<detail><c:UPnPError>" + code + "</c:UPnPError><c:UPnPError>" + code + "</c:UPnPError></detail>"), failed("<detail><UPnPError>" + code + "</UPnPError></detail>"), failed("<detail><s:UPnPError>" + code + "</s:UPnPError></detail>"), failed("<detail><c:Error>" + code + "</c:Error></detail>"), failed("<detail>" + code + "</detail>"),
		strings.ReplaceAll(failed(right), "s:Fault", "Fault"), strings.ReplaceAll(failed(right), "s:Fault", "s:fault"), strings.ReplaceAll(failed(right), "s:Fault", "x"), strings.Replace(failed(right), "<s:Body>", "<s:Body>t", 1), strings.Replace(failed(right), "</s:Body>", "<x/></s:Body>", 1), strings.Replace(failed(right), "</s:Body>", "</s:Body><s:Body/>", 1), strings.Replace(failed(right), env, "x", 1), strings.ReplaceAll(failed(right), "s:Body", "Body"), strings.ReplaceAll(failed(right), "s:Envelope", "s:Env"), failed(right) + "x", "<!DOCTYPE x>" + failed(right), failed(right + "&x;"), failed(right + args(70)), failed(right + strings.Repeat(" ", 8192)), strings.Replace(failed(right), "control-1-0", "control-1-1", 1),
	} {
		if n, ok := soap.Code([]byte(s)); n != 0 || ok {
			t.Errorf("%.300q: %d, %t", s, n, ok)
		}
	}
}

func TestP18_4Header(t *testing.T) {
	for s, want := range map[string][2]string{
		`"urn:s#Get"`: {"urn:s", "Get"}, `"u#A"`: {"u", "A"}, `" # "`: {" ", " "}, "\"\x00\xff#'\"": {"\x00\xff", "'"}, `"urn:schemas-upnp-org:service:WANIPConnection:2#AddPortMapping"`: {"urn:schemas-upnp-org:service:WANIPConnection:2", "AddPortMapping"},
	} {
		if service, action, ok := soap.Header(s); service != want[0] || action != want[1] || !ok {
			t.Errorf("%q: %q, %q, %t", s, service, action, ok)
		}
	}
	for _, s := range []string{
		"", `"`, `""`, `"""`, "#", `"#"`, `"u#"`, `"#A"`, "u#A", `"u#A`, `u#A"`, `'u#A'`, `"u#A#B"`, `"u##A"`, `"##"`, `"#u#A"`, `"u#A#"`, `"uA"`, `"u#A" `, ` "u#A"`, `"u"#A"`, `"u#A""`, `""u#A"`, `"u#"A"`, `u"#"A`, `"u#A"x`, `x"u#A"`,
	} {
		if service, action, ok := soap.Header(s); service != "" || action != "" || ok {
			t.Errorf("%q: %q, %q, %t", s, service, action, ok)
		}
	}
}

func TestP18_4Find(t *testing.T) {
	list := []api.Arg{{Name: "A", Value: "1"}, {Name: "B", Value: ""}, {Name: "A", Value: "2"}, {Name: "", Value: "3"}, {Name: "a", Value: "4"}}
	for name, want := range map[string]string{"A": "1", "B": "", "": "3", "a": "4"} {
		if got, ok := soap.Find(list, name); got != want || !ok {
			t.Errorf("%q: %q, %t", name, got, ok)
		}
	}
	for _, name := range []string{"C", "b", "A ", " A", "AB", "1"} {
		if got, ok := soap.Find(list, name); got != "" || ok {
			t.Errorf("%q: %q, %t", name, got, ok)
		}
	}
	if got, ok := soap.Find(nil, ""); got != "" || ok {
		t.Errorf("of no list: %q, %t", got, ok)
	}
}
