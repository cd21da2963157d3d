package xml_test

import (
	"fmt"
	"math/rand"
	"slices"
	"strings"
	"testing"

	"hearth/api"
	"hearth/xml"
)

func TestP17_2Escape(t *testing.T) {
	for _, c := range [][2]string{
		{"", ""}, {"a", "a"}, {"<a x=\"1\">&amp;'</a>", "&lt;a x=&quot;1&quot;&gt;&amp;amp;'&lt;/a&gt;"}, {"&&", "&amp;&amp;"}, {"&lt;", "&amp;lt;"}, {"\t\r\n\x00\x7f\xff\u00e9", "\t\r\n\x00\x7f\xff\u00e9"},
	} {
		if got := xml.Escape(c[0]); got != c[1] {
			t.Errorf("Escape(%q): %q, not %q", c[0], got, c[1])
		}
	}
	told := map[int]string{'&': "&amp;", '<': "&lt;", '>': "&gt;", '"': "&quot;"}
	for c := range 256 {
		want, escaped := told[c]
		if !escaped {
			want = string([]byte{byte(c)})
		}
		if got := xml.Escape("a" + string([]byte{byte(c)}) + "b"); got != "a"+want+"b" {
			t.Errorf("Escape of the byte %d: %q", c, got)
		}
	}
}

func TestP17_2Name(t *testing.T) {
	const first = "abcdefghijklmnopqrstuvwxyzABCDEFGHIJKLMNOPQRSTUVWXYZ_"
	for c := range 256 {
		b := string([]byte{byte(c)})
		begins := strings.IndexByte(first, byte(c)) >= 0
		inside := strings.IndexByte(first+"0123456789-.", byte(c)) >= 0
		for s, want := range map[string]bool{b: begins, b + "a": begins, "a" + b: inside, "_" + b + "a": inside} {
			if xml.Name(s) != want {
				t.Errorf("Name(%q): %t", s, !want)
			}
		}
	}
	for n := range 200 {
		if got := xml.Name(strings.Repeat("n", n)); got != (1 <= n && n <= 64) {
			t.Errorf("Name of %d bytes: %t", n, got)
		}
	}
	for _, s := range []string{"a:b", ":", "a:", ":a", "a b", " a", "a ", "\u00e9", "a\u0300", "\u212a", "a\x00"} {
		if xml.Name(s) {
			t.Errorf("Name(%q)", s)
		}
	}
}

// el gives an element without attributes.
func el(name string, kids ...api.Element) api.Element {
	return api.Element{Name: name, Kids: kids}
}

// with gives an element with attributes alone.
func with(attrs ...api.Attr) api.Element {
	return api.Element{Name: "a", Attrs: attrs}
}

// writes wants an element to be written as that.
func writes(t *testing.T, e api.Element, want string) {
	t.Helper()
	b, fault := xml.Write(e)
	if fault != api.OK || string(b) != want {
		t.Errorf("%.80s: %.200q, %v, not %.200q", show(e), b, fault, want)
	}
	if back, fault := xml.Parse(b); fault != api.OK || !same(back, e) {
		t.Errorf("%.80s: Parse of %.80q gives %.80s, %v", show(e), b, show(back), fault)
	}
}

// fails wants an element not to be written.
func fails(t *testing.T, e api.Element, want api.Errno) {
	t.Helper()
	if b, fault := xml.Write(e); fault != want || len(b) != 0 {
		t.Errorf("%.80s: %.80q, %v, not %v", show(e), b, fault, want)
	}
}

func TestP17_3Write(t *testing.T) {
	writes(t, el("a"), `<a xmlns=""></a>`)
	writes(t, api.Element{Space: "u", Name: "a"}, `<a xmlns="u"></a>`)
	writes(t, api.Element{Space: "u&<>\"'\t\r\n\xff", Name: "a"}, "<a xmlns=\"u&amp;&lt;&gt;&quot;'\t\r\n\xff\"></a>")
	writes(t, api.Element{Name: "a", Text: "1 & 2 < \"3\" > '4'\t\r\n\r\xff\u00e9\x7f"}, "<a xmlns=\"\">1 &amp; 2 &lt; &quot;3&quot; &gt; '4'\t&#13;\n&#13;\xff\u00e9\x7f</a>")
	writes(t, el("a", el("b", el("c")), el("b"), api.Element{Space: "u", Name: "d", Kids: []api.Element{el("e")}}), `<a xmlns=""><b xmlns=""><c xmlns=""></c></b><b xmlns=""></b><d xmlns="u"><e xmlns=""></e></d></a>`)
	writes(t, api.Element{Name: "a", Text: "t", Kids: []api.Element{{Name: "b", Text: "u"}}}, `<a xmlns="">t<b xmlns="">u</b></a>`)
	writes(t, el("xmlns", el("xml")), `<xmlns xmlns=""><xml xmlns=""></xml></xmlns>`)
	writes(t, api.Element{Name: "a", Text: "]]><![CDATA["}, `<a xmlns="">]]&gt;&lt;![CDATA[</a>`)
}

func TestP17_3Attributes(t *testing.T) {
	writes(t, with(api.Attr{Name: "x", Value: "1"}), `<a xmlns="" x="1"></a>`)
	writes(t, with(api.Attr{Name: "x"}, api.Attr{Name: "y", Value: "2"}), `<a xmlns="" x="" y="2"></a>`)
	writes(t, with(api.Attr{Space: "u", Name: "x", Value: "1"}), `<a xmlns="" xmlns:p0="u" p0:x="1"></a>`)
	writes(t, with(api.Attr{Name: "x"}, api.Attr{Space: "u", Name: "x"}, api.Attr{Space: "v", Name: "x"}), `<a xmlns="" x="" xmlns:p1="u" p1:x="" xmlns:p2="v" p2:x=""></a>`)
	writes(t, with(api.Attr{Space: "u", Name: "x"}, api.Attr{Space: "u", Name: "y"}), `<a xmlns="" xmlns:p0="u" p0:x="" xmlns:p1="u" p1:y=""></a>`)
	writes(t, with(api.Attr{Name: "x", Value: "&<>\"'\t\n\r \xff"}), "<a xmlns=\"\" x=\"&amp;&lt;&gt;&quot;'&#9;&#10;&#13; \xff\"></a>")
	writes(t, with(api.Attr{Space: "&<>\"'\t\n\r", Name: "x"}), "<a xmlns=\"\" xmlns:p0=\"&amp;&lt;&gt;&quot;'\t\n\r\" p0:x=\"\"></a>")
	writes(t, with(api.Attr{Space: "u", Name: "xmlns", Value: "v"}), `<a xmlns="" xmlns:p0="u" p0:xmlns="v"></a>`)
	writes(t, with(api.Attr{Name: "p0"}, api.Attr{Space: "u", Name: "p1"}), `<a xmlns="" p0="" xmlns:p1="u" p1:p1=""></a>`)
	writes(t, with(api.Attr{Space: "http://www.w3.org/XML/1998/namespace", Name: "lang", Value: "en"}), `<a xmlns="" xmlns:p0="http://www.w3.org/XML/1998/namespace" p0:lang="en"></a>`)
	var list []api.Attr
	want := `<a xmlns=""`
	for i := range 15 {
		list = append(list, api.Attr{Name: fmt.Sprint("x", 20-i)})
		want += fmt.Sprintf(` x%d=""`, 20-i)
	}
	writes(t, with(list...), want+"></a>")
}

func TestP17_3Form(t *testing.T) {
	for _, name := range []string{"", "1", "a:b", "p0:", "a b", "-", "\u00e9", "a\x00", "a>", strings.Repeat("n", 65)} {
		fails(t, el(name), api.ErrForm)
		fails(t, el("a", el(name)), api.ErrForm)
		fails(t, el("a", el("b"), el("c", el("d", el(name)))), api.ErrForm)
		fails(t, with(api.Attr{Name: name}), api.ErrForm)
		fails(t, with(api.Attr{Name: "x"}, api.Attr{Space: "u", Name: name}), api.ErrForm)
		fails(t, el("a", with(api.Attr{Name: name})), api.ErrForm)
	}
	for c := range 256 {
		s := "x" + string([]byte{byte(c)})
		for _, e := range []api.Element{{Space: s, Name: "a"}, {Name: "a", Text: s}, with(api.Attr{Name: "x", Value: s}), with(api.Attr{Space: s, Name: "x"}), el("a", el("b", api.Element{Name: "c", Text: s})), el("a", el("b"), with(api.Attr{Name: "x"}, api.Attr{Name: "y", Value: s}))} {
			want := api.OK
			if c < 32 && c != 9 && c != 10 && c != 13 {
				want = api.ErrForm
			}
			if _, fault := xml.Write(e); fault != want {
				t.Errorf("the byte %d: %v, not %v", c, fault, want)
			}
		}
	}
	x, y := api.Attr{Name: "x", Value: "1"}, api.Attr{Space: "u", Name: "x"}
	fails(t, with(x, api.Attr{Name: "x", Value: "2"}), api.ErrForm)
	fails(t, with(x, y, x), api.ErrForm)
	fails(t, with(y, x, y), api.ErrForm)
	fails(t, el("a", el("b", with(y, x, api.Attr{Space: "u", Name: "x", Value: "3"}))), api.ErrForm)
	fails(t, with(api.Attr{Name: "xmlns", Value: "u"}), api.ErrForm)
	fails(t, with(x, api.Attr{Name: "xmlns"}), api.ErrForm)
	fails(t, el("a", with(api.Attr{Name: "xmlns"})), api.ErrForm)
	fails(t, api.Element{}, api.ErrForm)
}

// chain gives so many elements in one another.
func chain(n int) api.Element {
	e := el("a")
	for range n - 1 {
		e = el("a", e)
	}
	return e
}

// many gives so many attributes, the first ones with spaces.
func many(spaced, n int) []api.Attr {
	var list []api.Attr
	for i := range n {
		a := api.Attr{Name: fmt.Sprint("x", i)}
		if i < spaced {
			a.Space = "u"
		}
		list = append(list, a)
	}
	return list
}

func TestP17_3Full(t *testing.T) {
	wide := func(n int) api.Element { return el("a", slices.Repeat([]api.Element{el("b")}, n)...) }
	for _, c := range []struct {
		e    api.Element
		want api.Errno
	}{
		{chain(8), api.OK}, {chain(9), api.ErrFull}, {chain(60000), api.ErrFull}, {el("a", el("b"), chain(7)), api.OK}, {el("a", el("b"), chain(8)), api.ErrFull},
		{wide(63), api.OK}, {wide(64), api.ErrFull}, {wide(100000), api.ErrFull}, {el("r", wide(31), wide(30)), api.OK}, {el("r", wide(31), wide(31)), api.ErrFull},
		{with(many(0, 15)...), api.OK}, {with(many(0, 16)...), api.ErrFull}, {with(many(1, 14)...), api.OK}, {with(many(1, 15)...), api.ErrFull}, {with(many(7, 7)...), api.OK}, {with(many(7, 8)...), api.OK}, {with(many(7, 9)...), api.ErrFull}, {with(many(8, 8)...), api.ErrFull}, {with(many(0, 50000)...), api.ErrFull},
		{el("a", with(many(0, 15)...), with(many(7, 8)...)), api.OK}, {el("a", with(many(0, 15)...), with(many(8, 8)...)), api.ErrFull},
	} {
		if b, fault := xml.Write(c.e); fault != c.want || fault != api.OK && len(b) != 0 {
			t.Errorf("%.100s: %v, not %v", show(c.e), fault, c.want)
		} else if back, fault := xml.Parse(b); c.want == api.OK && (fault != api.OK || !same(back, c.e)) {
			t.Errorf("Parse of %.100q: %v", b, fault)
		}
	}
}

func TestP17_3Long(t *testing.T) {
	const around = len(`<a xmlns=""></a>`)
	writes(t, api.Element{Name: "a", Text: strings.Repeat("x", 8192-around)}, `<a xmlns="">`+strings.Repeat("x", 8192-around)+`</a>`)
	for _, c := range []struct {
		e   api.Element
		out int
	}{
		{api.Element{Name: "a", Text: strings.Repeat("x", 8193-around)}, 8193},
		{api.Element{Name: "a", Text: strings.Repeat("&", (8192-around)/5)}, 8191},
		{api.Element{Name: "a", Text: strings.Repeat("&", (8192-around)/5) + "x"}, 8192},
		{api.Element{Name: "a", Text: strings.Repeat("&", (8192-around)/5) + "\r"}, 8196},
		{api.Element{Name: "a", Space: strings.Repeat("x", 8192-around)}, 8192},
		{api.Element{Name: "a", Space: strings.Repeat("x", 8193-around)}, 8193},
		{with(api.Attr{Name: "x", Value: strings.Repeat("x", 8192-around-5)}), 8192},
		{with(api.Attr{Name: "x", Value: strings.Repeat("x", 8193-around-5)}), 8193},
		{with(api.Attr{Name: "x", Value: strings.Repeat("\n", 1700)}), 0},
		{with(api.Attr{Name: "x", Space: strings.Repeat("x", 8192-around-20)}), 8192},
		{with(api.Attr{Name: "x", Space: strings.Repeat("x", 8193-around-20)}), 8193},
		{el("a", api.Element{Name: "a", Text: strings.Repeat("x", 8192-2*around)}), 8192},
		{el("a", api.Element{Name: "a", Text: strings.Repeat("x", 8193-2*around)}), 8193},
		{api.Element{Name: "a", Text: strings.Repeat("x", 4097), Space: strings.Repeat("x", 4096)}, 0},
		{api.Element{Name: "a", Text: strings.Repeat("\"", 50000000)}, 0},
	} {
		b, fault := xml.Write(c.e)
		switch {
		case (c.out == 0 || c.out > 8192) && (fault != api.ErrLong || len(b) != 0):
			t.Errorf("%.60s, of %d bytes: %v, %d bytes", show(c.e), c.out, fault, len(b))
		case 0 < c.out && c.out <= 8192 && (fault != api.OK || len(b) != c.out):
			t.Errorf("%.60s, of %d bytes: %v, %d bytes", show(c.e), c.out, fault, len(b))
		}
	}
}

// ErrForm comes ahead of ErrFull, and that ahead of ErrLong, wherever each is.
func TestP17_3Order(t *testing.T) {
	long := api.Element{Name: "a", Text: strings.Repeat("x", 9000)}
	deep := chain(9)
	fails(t, el("a", long, deep), api.ErrFull)
	fails(t, el("a", deep, long), api.ErrFull)
	fails(t, el("a", long, deep, el("")), api.ErrForm)
	fails(t, el("a", deep, long, api.Element{Name: "b", Text: "\x01"}), api.ErrForm)
	fails(t, el("a", long, el("")), api.ErrForm)
	fails(t, el("a", deep, with(api.Attr{Name: "xmlns"})), api.ErrForm)
	fails(t, with(append(many(0, 30), many(0, 1)...)...), api.ErrForm)
	fails(t, api.Element{Name: "a", Text: long.Text, Attrs: many(0, 16)}, api.ErrFull)
	inner := el("a", el("1"))
	for range 5000 {
		inner = el("a", inner)
	}
	fails(t, inner, api.ErrForm)
}

// order gives what All goes through: each element's depth and name.
func order(e api.Element) []string {
	var out []string
	for deep, x := range xml.All(e) {
		out = append(out, fmt.Sprint(deep, x.Name))
	}
	return out
}

func TestP17_4All(t *testing.T) {
	tree := el("a", el("b", el("c"), el("d", el("e"))), el("f"), el("g", el("h")))
	want := strings.Fields("0a 1b 2c 2d 3e 1f 1g 2h")
	if got := order(tree); !slices.Equal(got, want) {
		t.Errorf("%q, not %q", got, want)
	}
	if got := order(api.Element{}); !slices.Equal(got, []string{"0"}) {
		t.Errorf("of a zero element: %q", got)
	}
	if got := order(el("\x00 ", el(":"))); !slices.Equal(got, []string{"0\x00 ", "1:"}) {
		t.Errorf("of no names: %q", got)
	}
	for n := 1; n <= len(want); n++ {
		var got []string
		xml.All(tree)(func(deep int, x api.Element) bool {
			got = append(got, fmt.Sprint(deep, x.Name))
			return len(got) < n
		})
		if !slices.Equal(got, want[:n]) {
			t.Errorf("ended behind %d: %q", n, got)
		}
	}
	for _, x := range xml.All(tree) {
		if x.Name == "d" && !same(x, tree.Kids[0].Kids[1]) || x.Name == "a" && !same(x, tree) {
			t.Errorf("told %s", show(x))
		}
	}
	whole := api.Element{Space: "u", Name: "a", Attrs: []api.Attr{{Name: "x", Value: "1"}}, Text: "t"}
	for deep, x := range xml.All(whole) {
		if deep != 0 || !same(x, whole) {
			t.Errorf("told %d %s", deep, show(x))
		}
	}
}

// One function that All gave goes through the elements as often as it is called, within itself, too.
func TestP17_4AllAgain(t *testing.T) {
	all := xml.All(el("a", el("b"), el("c")))
	got := ""
	for _, x := range all {
		got += x.Name
		for _, y := range all {
			got += y.Name
			if y.Name == "b" {
				break
			}
		}
	}
	if got != "aabbabcab" {
		t.Errorf("%q", got)
	}
}

func TestP17_4AllDeepAndWide(t *testing.T) {
	count, last := 0, 0
	for deep := range xml.All(chain(1500)) {
		count, last = count+1, deep
	}
	if count != 1500 || last != 1499 {
		t.Errorf("%d elements, the last one %d deep", count, last)
	}
	if got := order(el("a", slices.Repeat([]api.Element{el("b", el("c"))}, 20000)...)); len(got) != 40001 || got[40000] != "2c" {
		t.Errorf("%d elements", len(got))
	}
}

// spoil writes over all that a caller could of an element, the spare room too.
func spoil(e api.Element) {
	for i := range e.Kids[:cap(e.Kids)] {
		spoil(e.Kids[:cap(e.Kids)][i])
		e.Kids[:cap(e.Kids)][i] = api.Element{Space: "spoilt", Name: "spoilt"}
	}
	for i := range e.Attrs[:cap(e.Attrs)] {
		e.Attrs[:cap(e.Attrs)][i] = api.Attr{Name: "spoilt"}
	}
}

// roomy gives an element whose lists have room behind them, with something in it.
func roomy(e api.Element) api.Element {
	e.Attrs = append(slices.Clone(e.Attrs), api.Attr{Name: "room"}, api.Attr{Name: "room"})[:len(e.Attrs)]
	kids := []api.Element{}
	for _, kid := range e.Kids {
		kids = append(kids, roomy(kid))
	}
	e.Kids = append(kids, el("room"), el("room"))[:len(kids)]
	return e
}

// room gives all that stands in an element's lists, and behind them.
func room(e api.Element) string {
	s := fmt.Sprintf("%q %q %q %q (", e.Space, e.Name, e.Text, e.Attrs[:cap(e.Attrs)])
	for _, kid := range e.Kids[:cap(e.Kids)] {
		s += room(kid)
	}
	return s + ")"
}

func sample() api.Element {
	return api.Element{Space: "u", Name: "a", Text: "t", Attrs: many(1, 3), Kids: []api.Element{el("b", el("c"), with(many(1, 2)...)), el("d")}}
}

func TestP17_5NothingIsChanged(t *testing.T) {
	e := roomy(sample())
	was := room(e)
	xml.Write(e)
	for _, x := range xml.All(e) {
		spoil(x)
	}
	if now := room(e); now != was {
		t.Errorf("changed: %s, not %s", now, was)
	}
	text := "<a x='1&lt;'>t&amp;<b/></a>"
	whole := []byte(text + "behind")
	if _, fault := xml.Parse(whole[:len(text)]); fault != api.OK || string(whole) != text+"behind" {
		t.Errorf("changed: %q, %v", whole, fault)
	}
}

func TestP17_5NothingIsKept(t *testing.T) {
	b := []byte("<a xmlns='u' x='1'>t<b><c y='2'>v</c></b></a>")
	e, _ := xml.Parse(b)
	was := show(e)
	clear(b)
	if now := show(e); now != was {
		t.Errorf("Parse kept its bytes: %s, not %s", now, was)
	}
	tree := sample()
	want := order(tree)
	all := xml.All(tree)
	spoil(tree)
	var got []string
	for deep, x := range all {
		got = append(got, fmt.Sprint(deep, x.Name))
	}
	if !slices.Equal(got, want) {
		t.Errorf("All kept the element: %q, not %q", got, want)
	}
}

func TestP17_5AnswersAreNew(t *testing.T) {
	b := []byte("<a xmlns='u' x='1' y='2'>t<b y='2'/><b><c z='3'/></b><d/></a>")
	one, _ := xml.Parse(b)
	other, _ := xml.Parse(b)
	was := show(other)
	spoil(one)
	if now := show(other); now != was {
		t.Errorf("two answers of Parse share: %s, not %s", now, was)
	}
	for i := range other.Kids { // no list of an answer is another one's room
		_ = append(other.Kids[i].Kids, el("x"))
		_ = append(other.Kids[i].Attrs, api.Attr{Name: "x"})
	}
	_, _ = append(other.Kids, el("x")), append(other.Attrs, api.Attr{Name: "x"})
	if now := show(other); now != was {
		t.Errorf("lists of one answer share: %s, not %s", now, was)
	}
	tree := sample()
	first, _ := xml.Write(tree)
	second, _ := xml.Write(tree)
	text := string(second)
	clear(first[:cap(first)])
	if string(second) != text {
		t.Errorf("two answers of Write share: %q", second)
	}
	all := xml.All(tree)
	want := order(tree)
	for range 2 {
		var got []string
		for deep, x := range all {
			got = append(got, fmt.Sprint(deep, x.Name))
			spoil(x)
		}
		if !slices.Equal(got, want) {
			t.Errorf("what All tells is kept: %q, not %q", got, want)
		}
	}
}

// wildText gives a text of bytes that matter.
func wildText(r *rand.Rand) string {
	const alphabet = "<>&;/!-[]?='\": \t\r\nax:\x00\xff#lt"
	b := make([]byte, r.Intn(1<<uint(r.Intn(8))))
	for i := range b {
		b[i] = alphabet[r.Intn(len(alphabet))]
	}
	return string(b)
}

func wildElement(r *rand.Rand, deep int) api.Element {
	e := api.Element{Space: wildText(r), Name: wildText(r), Text: wildText(r)}
	for range r.Intn(3) {
		e.Attrs = append(e.Attrs, api.Attr{Space: wildText(r), Name: wildText(r), Value: wildText(r)})
	}
	for range r.Intn(3) {
		if deep < 6 {
			e.Kids = append(e.Kids, wildElement(r, deep+1))
		}
	}
	return e
}

// drive calls all that there is with wild arguments, and gives what was answered.
func drive(seed int64) string {
	r := rand.New(rand.NewSource(seed))
	var s strings.Builder
	for range 400 {
		e, fault := xml.Parse([]byte(wildText(r)))
		s.WriteString(show(e) + fault.Error())
		text := wildText(r)
		fmt.Fprint(&s, xml.Escape(text), xml.Name(text))
		tree := wildElement(r, 0)
		b, fault := xml.Write(tree)
		s.WriteString(string(b) + fault.Error())
		for deep, x := range xml.All(tree) {
			fmt.Fprint(&s, deep, x.Name)
			if r.Intn(50) == 0 {
				break
			}
		}
		m, fault := xml.Parse([]byte(document(r)))
		s.WriteString(show(m) + fault.Error())
	}
	return s.String()
}

func TestP1P2Runs(t *testing.T) {
	for seed := range int64(4) {
		if a, b := drive(seed), drive(seed); a != b {
			t.Errorf("seed %d: two runs differ", seed)
		}
	}
}
