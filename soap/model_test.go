package soap_test

import (
	"fmt"
	"math/rand"
	"slices"
	"strconv"
	"strings"
	"testing"

	"hearth/api"
	"hearth/soap"
	"hearth/xml"
)

// paths gives a tree as the full names from its root to each element, in order.
func paths(e api.Element) (out []string, all []api.Element) {
	var names []string
	for deep, x := range xml.All(e) {
		names = append(names[:deep], x.Space+"|"+x.Name)
		out, all = append(out, strings.Join(names, " > ")), append(all, x)
	}
	return out, all
}

// modelInside gives what is in an envelope's Body, by the chapter's words, or why it is none.
func modelInside(root api.Element) (api.Element, string) {
	const e, h, b = env + "|Envelope", env + "|Header", env + "|Body"
	list, all := paths(root)
	var kids []string
	var body api.Element
	for i, p := range list {
		if strings.Count(p, " > ") == 1 {
			kids = append(kids, strings.TrimPrefix(p, list[0]+" > "))
			body = all[i]
		}
	}
	switch {
	case list[0] != e:
		return api.Element{}, "no envelope"
	case !slices.Equal(kids, []string{b}) && !slices.Equal(kids, []string{h, b}):
		return api.Element{}, "no body"
	case strings.Trim(root.Text+body.Text, " \t\r\n") != "":
		return api.Element{}, "text"
	case len(body.Kids) != 1:
		return api.Element{}, "not one"
	}
	return body.Kids[0], ""
}

func modelDecode(root api.Element) (api.Call, string) {
	x, why := modelInside(root)
	if why != "" {
		return api.Call{}, why
	}
	c := api.Call{Service: x.Space, Action: x.Name}
	seen := map[string]int{}
	for _, kid := range x.Kids {
		c.Args = append(c.Args, api.Arg{Name: kid.Name, Value: kid.Text})
		seen[kid.Name]++
		if seen[kid.Name] > 1 {
			why = "twice"
		}
		if len(kid.Kids) > 0 {
			why = "nested"
		}
	}
	if len(x.Kids) > 16 {
		why = "many"
	}
	if x.Space == "" {
		why = "no space"
	}
	if why != "" {
		return api.Call{}, why
	}
	return c, "call"
}

func modelCode(root api.Element) (int, string) {
	const c = "urn:schemas-upnp-org:control-1-0|"
	x, why := modelInside(root)
	if why != "" {
		return 0, why
	}
	list, all := paths(x)
	const fault = env + "|Fault"
	at := slices.Index(list, fault+" > |detail")
	if list[0] != fault || at < 0 {
		return 0, "no fault"
	}
	if len(all[at].Kids) != 1 || all[at].Kids[0].Space+"|"+all[at].Kids[0].Name != c+"UPnPError" {
		return 0, "no error"
	}
	for _, kid := range all[at].Kids[0].Kids {
		if kid.Space+"|"+kid.Name != c+"errorCode" {
			continue
		}
		n, err := strconv.Atoi(kid.Text)
		if err != nil || strings.Trim(kid.Text, "0123456789") != "" || len(kid.Text) > 7 || n > 999 {
			return 0, "no number"
		}
		return n, "code"
	}
	return 0, "no code"
}

// oneOf gives one of several texts, the first one mostly.
func oneOf(r *rand.Rand, texts ...string) string {
	if r.Intn(8) > 0 {
		return texts[0]
	}
	return texts[r.Intn(len(texts))]
}

// part gives an element of these, near to that one.
func part(r *rand.Rand, space, name string, kids ...api.Element) api.Element {
	e := api.Element{Space: oneOf(r, space, space, "u", ""), Name: oneOf(r, name, name, "A", "Body"), Kids: kids}
	if r.Intn(20) == 0 {
		e.Attrs = []api.Attr{{Name: "x", Value: "1"}}
	}
	if r.Intn(20) == 0 && len(kids) > 0 {
		i := r.Intn(len(kids))
		e.Kids = append(append(slices.Clone(kids[:i]), api.Element{Space: space, Name: oneOf(r, "A", "B", "Header", "detail")}), kids[i:]...)
	}
	if r.Intn(30) == 0 {
		e.Kids = append(slices.Clone(e.Kids), e.Kids...)
	}
	return e
}

func texted(e api.Element, text string) api.Element {
	e.Text = text
	return e
}

// envelope gives a tree that is an envelope, or near to one.
func envelope(r *rand.Rand) api.Element {
	blank := func() string { return oneOf(r, "", " ", "\r\n", "t") }
	var inner api.Element
	if r.Intn(2) == 0 {
		var kids []api.Element
		for i := range r.Intn(1 << uint(r.Intn(6))) {
			kids = append(kids, texted(part(r, "", fmt.Sprint("N", i)), oneOf(r, "1", "<&\r", "")))
		}
		inner = part(r, "urn:s", "Get", kids...)
	} else {
		const c = "urn:schemas-upnp-org:control-1-0"
		code := texted(part(r, c, "errorCode"), oneOf(r, fmt.Sprint(r.Intn(1000)), "1000", "x", "", "-1", "0000001", "00000001"))
		inner = part(r, env, "Fault", part(r, "", "faultcode"), part(r, "", "detail", part(r, c, "UPnPError", part(r, c, "errorDescription"), code)))
	}
	kids := []api.Element{texted(part(r, env, "Body", inner), blank())}
	if r.Intn(3) == 0 {
		kids = append([]api.Element{part(r, env, "Header")}, kids...)
	}
	return texted(part(r, env, "Envelope", kids...), blank())
}

func TestP18_1P18_3ByTheModel(t *testing.T) {
	seen := map[string]int{}
	for seed := range int64(30000) {
		root := envelope(rand.New(rand.NewSource(seed)))
		b, fault := xml.Write(root)
		if fault != api.OK {
			continue
		}
		want, why := modelDecode(root)
		code := api.ErrForm
		if why == "call" {
			code = api.OK
		}
		if c, fault := soap.Decode(b); !same(c, want) || fault != code {
			t.Fatalf("seed %d: %q: %.200s, %v, not %.200s, %q", seed, b, show(c), fault, show(want), why)
		}
		number, how := modelCode(root)
		if n, ok := soap.Code(b); n != number || ok != (how == "code") {
			t.Fatalf("seed %d: %q: %d, %t, not %d, %q", seed, b, n, ok, number, how)
		}
		seen[why]++
		seen[how]++
	}
	for _, why := range strings.Split("call,no envelope,no body,text,not one,twice,nested,many,no space,code,no fault,no error,no number,no code", ",") {
		if seen[why] < 50 {
			t.Errorf("%q was met %d times", why, seen[why])
		}
	}
}

// calls gives a call, most of whose parts are right.
func calls(r *rand.Rand) api.Call {
	text := func() string {
		return oneOf(r, "x", "", "<&>\"'", "\t\r\n", "\xff\u00e9", " ", strings.Repeat("x", r.Intn(9000)))
	}
	c := api.Call{Service: oneOf(r, "urn:s", text(), "u"), Action: oneOf(r, "Get", "_", "a-b", "", "1")}
	for i := range r.Intn(18) {
		c.Args = append(c.Args, api.Arg{Name: fmt.Sprint(oneOf(r, "A", "A", "A", "A", "A", "A", ":"), i-r.Intn(40)/39), Value: text()})
	}
	return c
}

func TestP18_2ByTheModel(t *testing.T) {
	seen := map[api.Errno]int{}
	for seed := range int64(8000) {
		c := calls(rand.New(rand.NewSource(seed)))
		names := map[string]int{}
		root := api.Element{Space: env, Name: "Envelope", Attrs: []api.Attr{{Space: env, Name: "encodingStyle", Value: "http://schemas.xmlsoap.org/soap/encoding/"}}, Kids: []api.Element{{Space: env, Name: "Body", Kids: []api.Element{{Space: c.Service, Name: c.Action}}}}}
		action := &root.Kids[0].Kids[0]
		for _, a := range c.Args {
			names[a.Name]++
			action.Kids = append(action.Kids, api.Element{Name: a.Name, Text: a.Value})
		}
		want, code := xml.Write(root)
		if c.Service == "" || len(c.Args) > 16 || len(names) < len(c.Args) {
			want, code = nil, api.ErrArg
		}
		b, fault := soap.Encode(c)
		if fault != code || string(b) != string(want) {
			t.Fatalf("seed %d: %.200s: %.200q, %v, not %.200q, %v", seed, show(c), b, fault, want, code)
		}
		if back, fault := soap.Decode(b); code == api.OK && (fault != api.OK || !same(back, c)) {
			t.Fatalf("seed %d: %.200s: Decode gives %.200s, %v", seed, show(c), show(back), fault)
		}
		seen[code]++
	}
	for _, code := range []api.Errno{api.OK, api.ErrArg, api.ErrForm, api.ErrLong} {
		if seen[code] < 50 {
			t.Errorf("%v was met %d times", code, seen[code])
		}
	}
}

func TestP18_5NothingIsKeptOrChanged(t *testing.T) {
	text := body("<Get xmlns='u'><A>1</A><B>2</B></Get>")
	whole := []byte(text + "behind")
	c, _ := soap.Decode(whole[:len(text)])
	if string(whole) != text+"behind" {
		t.Errorf("Decode changed its bytes: %q", whole)
	}
	soap.Code(whole[:len(text)])
	if string(whole) != text+"behind" {
		t.Errorf("Code changed its bytes: %q", whole)
	}
	clear(whole)
	if got := show(c); got != `u#Get A="1" B="2"` {
		t.Errorf("Decode kept its bytes: %s", got)
	}
	list := []api.Arg{{Name: "A", Value: "1"}, {Name: "B", Value: "2"}, {Name: "behind"}, {Name: "behind"}}
	was := fmt.Sprint(list)
	b, _ := soap.Encode(api.Call{Service: "u", Action: "Get", Args: list[:2]})
	soap.Find(list[:2], "C")
	if now := fmt.Sprint(list); now != was {
		t.Errorf("the arguments were changed: %s", now)
	}
	sent := string(b)
	clear(list)
	if string(b) != sent {
		t.Errorf("Encode kept the arguments: %q", b)
	}
}

func TestP18_5AnswersAreNew(t *testing.T) {
	text := []byte(body("<Get xmlns='u'><A>1</A><B>2</B></Get>"))
	one, _ := soap.Decode(text)
	other, _ := soap.Decode(text)
	clear(one.Args[:cap(one.Args)])
	if got := show(other); got != `u#Get A="1" B="2"` {
		t.Errorf("two answers of Decode share: %s", got)
	}
	for _, answer := range []func() []byte{
		func() []byte { return soap.Fault(718, "x") },
		func() []byte { return soap.Fault(718, "\x01") },
		func() []byte { b, _ := soap.Encode(other); return b },
	} {
		first, second := answer(), answer()
		was := string(second)
		clear(first[:cap(first)])
		if string(second) != was || string(answer()) != was {
			t.Errorf("two answers share: %q", second)
		}
	}
}

// drive calls all that there is with wild arguments, and gives what was answered.
func drive(seed int64) string {
	r := rand.New(rand.NewSource(seed))
	var s strings.Builder
	wild := func() string {
		const alphabet = "<>&;/\"'#:= \t\x00\xffau1"
		b := make([]byte, r.Intn(1<<uint(r.Intn(9))))
		for i := range b {
			b[i] = alphabet[r.Intn(len(alphabet))]
		}
		return string(b)
	}
	for range 500 {
		b, _ := xml.Write(envelope(r))
		if len(b) > 0 && r.Intn(2) == 0 {
			i := r.Intn(len(b))
			b = slices.Concat(b[:i], []byte(wild()), b[i+r.Intn(len(b)-i):])
		}
		c, fault := soap.Decode(b)
		n, ok := soap.Code(b)
		fmt.Fprintln(&s, show(c), fault, n, ok)
		c = calls(r)
		if r.Intn(3) == 0 {
			c = api.Call{Service: wild(), Action: wild(), Args: []api.Arg{{Name: wild(), Value: wild()}, {Name: wild(), Value: wild()}}}
		}
		b, fault = soap.Encode(c)
		value, found := soap.Find(c.Args, wild())
		service, action, right := soap.Header(wild())
		fmt.Fprintln(&s, string(b), fault, value, found, service, action, right, string(soap.Fault(int(r.Uint64()), wild())))
	}
	return s.String()
}

func TestP1P2Runs(t *testing.T) {
	for seed := range int64(4) {
		if a, b := drive(seed), drive(seed); a != b {
			t.Errorf("seed %d: two runs differ", seed)
		}
	}
}
