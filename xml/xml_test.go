package xml_test

import (
	"fmt"
	"slices"
	"strings"
	"testing"

	"hearth/api"
	"hearth/xml"
)

// The signatures that the chapter lists.
var (
	_ func([]byte) (api.Element, api.Errno)               = xml.Parse
	_ func(string) string                                 = xml.Escape
	_ func(string) bool                                   = xml.Name
	_ func(api.Element) ([]byte, api.Errno)               = xml.Write
	_ func(api.Element) func(func(int, api.Element) bool) = xml.All
)

// show gives an element as a text: its name, its attributes, its text, its elements.
func show(e api.Element) string {
	s := inSpace(e.Space, e.Name)
	for _, a := range e.Attrs {
		s += fmt.Sprintf(" %s=%q", inSpace(a.Space, a.Name), a.Value)
	}
	if e.Text != "" {
		s += fmt.Sprintf(" %q", e.Text)
	}
	var kids []string
	for _, kid := range e.Kids {
		kids = append(kids, show(kid))
	}
	if len(kids) > 0 {
		s += " (" + strings.Join(kids, ", ") + ")"
	}
	return s
}

func inSpace(space, name string) string {
	if space == "" {
		return name
	}
	return "{" + space + "}" + name
}

// same tells whether two elements are one.
func same(a, b api.Element) bool {
	return a.Space == b.Space && a.Name == b.Name && a.Text == b.Text && slices.Equal(a.Attrs, b.Attrs) && slices.EqualFunc(a.Kids, b.Kids, same)
}

// reads wants a text to be that element.
func reads(t *testing.T, s, want string) {
	t.Helper()
	e, fault := xml.Parse([]byte(s))
	if got := show(e); fault != api.OK || got != want {
		t.Errorf("%.80q: %.200s, %v, not %.200s", s, got, fault, want)
	}
}

// refused wants a text to be none, and a zero element beside that.
func refused(t *testing.T, s string, want api.Errno) {
	t.Helper()
	e, fault := xml.Parse([]byte(s))
	if fault != want || !same(e, api.Element{}) {
		t.Errorf("%.80q: %v and %.80s, not %v", s, fault, show(e), want)
	}
}

func TestP17_1Elements(t *testing.T) {
	for _, c := range [][2]string{
		{`<a x="1&lt;">t<!-- c --><b/>u</a>`, `a x="1<" "tu" (b)`},
		{"<a/>", "a"},
		{"<a></a>", "a"},
		{"<a \t\r\n></a \t\r\n>", "a"},
		{"<a \t\r\n/>", "a"},
		{"<_/>", "_"},
		{"<a-1._Z/>", "a-1._Z"},
		{"<a>t</a>", `a "t"`},
		{"<a> \t\r\n</a>", `a " \t\r\n"`},
		{"<a>\r\n \r</a>", `a "\r\n \r"`},
		{"<a><b/></a>", "a (b)"},
		{"<a><b><c/></b><b/>x<d>y</d></a>", `a "x" (b (c), b, d "y")`},
		{"<a><a></a></a>", "a (a)"},
		{"<a>1<b>2<c>3</c>4</b>5<b/>6</a>", `a "156" (b "24" (c "3"), b)`},
		{"<a>]]></a>", `a "]]>"`},
		{"<a>></a>", `a ">"`},
		{`<a>"'</a>`, `a "\"'"`},
		{"<a>/></a>", `a "/>"`},
		{"<a>\xff\x80\x7f\u00e9</a>", `a "\xff\x80\x7fé"`},
	} {
		reads(t, c[0], c[1])
	}
}

func TestP17_1Attributes(t *testing.T) {
	for _, c := range [][2]string{
		{`<a x="1"/>`, `a x="1"`},
		{`<a x='1'/>`, `a x="1"`},
		{`<a x='"'/>`, `a x="\""`},
		{`<a x="'"/>`, `a x="'"`},
		{`<a x=""/>`, `a x=""`},
		{"<a\tx\r=\n'1'\r\ny  =  '2'>t</a>", `a x="1" y="2" "t"`},
		{`<a y='1' x='2' z='3'/>`, `a y="1" x="2" z="3"`},
		{"<a x='\t\r\n '/>", `a x="\t\r\n "`},
		{"<a x=' 1  2 '/>", `a x=" 1  2 "`},
		{"<a x='>'/>", `a x=">"`},
		{"<a x='/>'/>", `a x="/>"`},
		{"<a x='&lt;&#65;'/>", `a x="<A"`},
		{"<a x='\xff\x7f'/>", `a x="\xff\x7f"`},
		{"<a a='1' A='2'/>", `a a="1" A="2"`},
		{"<a x='<!--'/>", ""},
		{"<a x='<'/>", ""},
		{`<a x="<"/>`, ""},
		{"<a x='1'y='2'/>", ""},
		{"<a x/>", ""},
		{"<a x=/>", ""},
		{"<a x=1/>", ""},
		{"<a x=''' />", ""},
		{`<a x="1'/>`, ""},
		{`<a x='1"/>`, ""},
		{"<a x='1/>", ""},
		{"<a ='1'/>", ""},
		{"<a 1='1'/>", ""},
		{"<a x:='1'/>", ""},
		{"<a :x='1'/>", ""},
		{"<a x='1' x='2'/>", ""},
		{"<a x='1' y='2' x='1'/>", ""},
		{"<a/ x='1'>", ""},
		{"<a></a x='1'>", ""},
		{"<a x='1' / >", ""},
		{"<a x=='1'/>", ""},
		{"<ax='1'/>", ""},
	} {
		if c[1] == "" {
			refused(t, c[0], api.ErrForm)
			continue
		}
		reads(t, c[0], c[1])
	}
}

func TestP17_1AroundTheElement(t *testing.T) {
	for _, s := range []string{
		"<?xml?><a/>",
		"<?xml version='1.0'?><a/>",
		"<?xml <>&?!-- ??><a/>",
		"<?xml>?><a/>",
		"<?xmlx?><a/>",
		"<?xml?> \t\r\n<a/> \t\r\n",
		"<!----><a/><!---->",
		"<!-- -- <b> & -> ]]> <!-- --><a/><!--x--> <!--y-->",
		" <!--x--> <!--y--><a/>",
		"<?xml?><!--x--><!--y--> <a/> <!--x-->\n",
		"<!--\xff--><a/>",
	} {
		reads(t, s, "a")
	}
	for _, s := range []string{
		"", " ", "x", "<", ">", "<!---->", "<?xml?>", "<?xml", "<?xml?", "<?xml ?", "<?xml>", "<?xml><a/>", " <?xml?><a/>", "<!----><?xml?><a/>", "<?xml?><?xml?><a/>", "<?XML?><a/>", "<?x?><a/>", "<?xml ?x><a/>",
		"x<a/>", "<a/>x", "<a/><b/>", "<a/></a>", "</a>", "<a/><?x?>", "<a><?x?></a>", "&#32;<a/>", "<a/>&#32;", "\x0b<a/>", "\u00a0<a/>", "\xef\xbb\xbf<a/>",
		"<!--<a/>", "<!-- --<a/>", "<!--><a/>", "<!---><a/>", "<!- --><a/>", "<! ----><a/>", "<a/><!--", "<a/><!-- --", "<a/><!-->", "<a/><!--->",
		"<!DOCTYPE a><a/>", "<!DOCTYPE a [<!ENTITY b 'c'>]><a>&b;</a>", "<![CDATA[]]><a/>", "<a/><![CDATA[]]>",
	} {
		refused(t, s, api.ErrForm)
	}
}

func TestP17_1Content(t *testing.T) {
	for _, c := range [][2]string{
		{"<a>1<!--2-->3</a>", `a "13"`},
		{"<a><!----></a>", "a"},
		{"<a>1<!-- <b>&x; ]]> -- -->3</a>", `a "13"`},
		{"<a><![CDATA[]]></a>", "a"},
		{"<a>1<![CDATA[2]]>3</a>", `a "123"`},
		{"<a><![CDATA[<b/>&lt;<!-- -->]]]></a>", `a "<b/>&lt;<!-- -->]"`},
		{"<a><![CDATA[]]]]></a>", `a "]]"`},
		{"<a><![CDATA[<![CDATA[]]></a>", `a "<![CDATA["`},
		{"<a><![CDATA[x]]>]]></a>", `a "x]]>"`},
		{"<a>1<b/>2<![CDATA[3]]><b>4</b><!--5-->6&#55;</a>", `a "12367" (b, b "4")`},
		{"<a><!--</a>", ""},
		{"<a><!--></a>", ""},
		{"<a><!---></a>", ""},
		{"<a><!--x->y</a>", ""},
		{"<a><![CDATA[</a>", ""},
		{"<a><![CDATA[x]]</a>", ""},
		{"<a><![CDATA[x]>]</a>", ""},
		{"<a><![cdata[x]]></a>", ""},
		{"<a><![CDATA x]]></a>", ""},
		{"<a><! [CDATA[x]]></a>", ""},
		{"<a><!x></a>", ""},
		{"<a><!DOCTYPE a></a>", ""},
		{"<a><</a>", ""},
		{"<a>&</a>", ""},
		{"<a>", ""},
		{"<a", ""},
		{"<a ", ""},
		{"<a/", ""},
		{"<a>x", ""},
		{"<a><b>", ""},
		{"<a><b></a>", ""},
		{"<a><b></a></b>", ""},
		{"<a></b>", ""},
		{"<a></aa>", ""},
		{"<aa></a>", ""},
		{"<a></A>", ""},
		{"<a></ a>", ""},
		{"<a>< /a>", ""},
		{"<a></a", ""},
		{"<a></", ""},
		{"<a></a/>", ""},
		{"<a></>", ""},
		{"<></>", ""},
		{"</>", ""},
		{"< a/>", ""},
		{"<a/ >", ""},
		{"<\ta/>", ""},
		{"<a//>", ""},
		{"<1/>", ""},
		{"<-/>", ""},
		{"<./>", ""},
		{"<\u00e9/>", ""},
		{"<a\u00e9/>", ""},
		{"<a!/>", ""},
	} {
		if c[1] == "" {
			refused(t, c[0], api.ErrForm)
			continue
		}
		reads(t, c[0], c[1])
	}
}

func TestP17_1References(t *testing.T) {
	for _, c := range [][2]string{
		{"&lt;", "<"}, {"&gt;", ">"}, {"&amp;", "&"}, {"&quot;", `"`}, {"&apos;", "'"}, {"&amp;lt;", "&lt;"}, {"&lt;&gt;", "<>"}, {"a&amp;b&#99;d", "a&bcd"}, {";&amp;;", ";&;"},
		{"&#65;", "A"}, {"&#0065;", "A"}, {"&#0000065;", "A"}, {"&#x41;", "A"}, {"&#x4a;&#x4A;", "JJ"}, {"&#x000041;", "A"}, {"&#60;&#38;", "<&"},
		{"&#9;", "\t"}, {"&#10;", "\n"}, {"&#13;", "\r"}, {"&#xd;&#xA;", "\r\n"}, {"&#32;", " "}, {"&#127;", "\x7f"}, {"&#128;", "\u0080"}, {"&#233;", "\u00e9"}, {"&#x7ff;", "\u07ff"}, {"&#x800;", "\u0800"},
		{"&#55295;", "\ud7ff"}, {"&#57344;", "\ue000"}, {"&#65533;", "\ufffd"}, {"&#65536;", "\U00010000"}, {"&#1114111;", "\U0010ffff"}, {"&#xd7FF;", "\ud7ff"}, {"&#xE000;", "\ue000"}, {"&#xfffd;", "\ufffd"}, {"&#x10000;", "\U00010000"}, {"&#x10FFff;", "\U0010ffff"},
	} {
		reads(t, "<a>"+c[0]+"</a>", fmt.Sprintf("a %q", c[1]))
		reads(t, "<a x='"+c[0]+"'/>", fmt.Sprintf("a x=%q", c[1]))
	}
	for _, s := range []string{
		"&", "&;", "& ;", "&lt", "&lt ;", "& lt;", "&LT;", "&Amp;", "&l t;", "&nbsp;", "&ltt;", "&l;", "&&amp;", "&lt&gt;", "a&b",
		"&#;", "&#x;", "&#65", "&#x41", "&# 65;", "&#65 ;", "&#-65;", "&#+65;", "&#6_5;", "&#X41;", "&#xg;", "&#4A;", "&x41;", "&#00000065;", "&#x0000041;", "&##65;", "&#xx41;", "&#65.;", "&#\u0666;",
		"&#0;", "&#1;", "&#8;", "&#11;", "&#12;", "&#14;", "&#31;", "&#x1f;", "&#55296;", "&#56320;", "&#57343;", "&#xd800;", "&#xDFFF;", "&#65534;", "&#65535;", "&#xfffe;", "&#xffff;", "&#1114112;", "&#x110000;", "&#9999999;", "&#xffffff;",
	} {
		refused(t, "<a>"+s+"</a>", api.ErrForm)
		refused(t, "<a x='"+s+"'/>", api.ErrForm)
		if e, fault := xml.Parse([]byte("<a><![CDATA[" + s + "]]></a>")); fault != api.OK || e.Text != s {
			t.Errorf("%q in CDATA: %q, %v", s, e.Text, fault)
		}
	}
}

// Each number is that of a character, or of none, by the chapter's list.
func TestP17_1Numbers(t *testing.T) {
	right := func(n int) bool {
		return n == 9 || n == 10 || n == 13 || 32 <= n && n <= 55295 || 57344 <= n && n <= 65533 || 65536 <= n && n <= 1114111
	}
	for n := 0; n < 1200000; n++ {
		if n > 70000 && n < 1110000 {
			n += 97
		}
		for _, form := range []string{"<a>&#%d;</a>", "<a>&#x%X;</a>"} {
			e, fault := xml.Parse(fmt.Appendf(nil, form, n))
			if right(n) && (fault != api.OK || e.Text != string(rune(n))) || !right(n) && fault != api.ErrForm {
				t.Fatalf("%d by %s: %q, %v", n, form, e.Text, fault)
			}
		}
	}
}

// No byte below 32 but tab, LF and CR stands anywhere; all others may stand in texts.
func TestP17_1Bytes(t *testing.T) {
	for c := range 256 {
		b := string([]byte{byte(c)})
		for _, form := range []string{"<?xml_?><a/>", "<!--_--><a/>", "<a/><!--_-->", "<a><!--_--></a>", "<a>_</a>", "<a><![CDATA[_]]></a>", "<a x='_'/>", "<a xmlns='_'/>", "<a>\n<b>_</b></a>"} {
			want := api.OK
			switch {
			case c < 32 && c != 9 && c != 10 && c != 13, (c == '&' || c == '<') && (strings.HasPrefix(form, "<a>_") || strings.Contains(form, "'_'") || strings.HasPrefix(form, "<a>\n")), c == '\'' && strings.Contains(form, "'_'"):
				want = api.ErrForm
			}
			if _, fault := xml.Parse([]byte(strings.ReplaceAll(form, "_", b))); fault != want {
				t.Errorf("byte %d in %q: %v, not %v", c, form, fault, want)
			}
		}
		for _, form := range []string{"_<a/>", "<a/>_", "<a_/>", "<a></a_>", "<a x_='1'/>", "<a x=_'1'/>", "<a x='1'_/>"} {
			blank := c == ' ' || c == 9 || c == 10 || c == 13
			inName := strings.IndexByte("abcdefghijklmnopqrstuvwxyzABCDEFGHIJKLMNOPQRSTUVWXYZ_0123456789-.", byte(c)) >= 0
			want := api.ErrForm
			switch {
			case blank, inName && (form == "<a_/>" || form == "<a x_='1'/>"):
				want = api.OK
			}
			if _, fault := xml.Parse([]byte(strings.Replace(form, "_", b, 1))); fault != want {
				t.Errorf("byte %d in %q: %v, not %v", c, form, fault, want)
			}
		}
	}
}

func TestP17_1Names(t *testing.T) {
	long := func(n int) string { return strings.Repeat("n", n) }
	for _, name := range []string{"a", "_", "Z9", "a-", "a.", "a-._9", "xmlns", "xml", "XMLns", long(64)} {
		reads(t, "<"+name+"/>", name)
		reads(t, "<"+name+"></"+name+">", name)
		if name != "xmlns" {
			reads(t, "<a "+name+"='1'/>", "a "+name+`="1"`)
		}
		reads(t, "<"+name+":b xmlns:"+name+"='u'/>", "{u}b")
		reads(t, "<p:"+name+" xmlns:p='u'></p:"+name+">", "{u}"+name)
	}
	for _, name := range []string{"", "9", "-", ".", "-a", "9a", ".a", "a:", ":a", "a:b:c", "a::b", ":", "a:9", "9:a", "\u00e9", "a\xff", "a b", long(65), "a:" + long(65), long(65) + ":a", "a:b:"} {
		refused(t, "<"+name+"/>", api.ErrForm)
		refused(t, "<"+name+" xmlns:a='u'></"+name+">", api.ErrForm)
		refused(t, "<a xmlns:a='u' "+name+"='1'/>", api.ErrForm)
		refused(t, "<a xmlns:"+name+"='u'/>", api.ErrForm)
	}
	reads(t, "<"+long(64)+":"+long(64)+" xmlns:"+long(64)+"='u'/>", "{u}"+long(64))
}

func TestP17_1Spaces(t *testing.T) {
	const xmlSpace = "{http://www.w3.org/XML/1998/namespace}"
	for _, c := range [][2]string{
		{"<a xmlns='u'/>", "{u}a"},
		{"<a xmlns='u'><b/></a>", "{u}a ({u}b)"},
		{"<a xmlns='u'><b xmlns='v'><c/></b><b/></a>", "{u}a ({v}b ({v}c), {u}b)"},
		{"<a xmlns='u'><b xmlns=''><c/></b><b/></a>", "{u}a (b (c), {u}b)"},
		{"<a xmlns=''/>", "a"},
		{"<a xmlns='u' x='1'/>", `{u}a x="1"`},
		{"<a x='1' xmlns='u' y='2'/>", `{u}a x="1" y="2"`},
		{"<p:a xmlns:p='u'/>", "{u}a"},
		{"<p:a xmlns:p='u'></p:a>", "{u}a"},
		{"<p:a xmlns:p='u'><p:b/><c/></p:a>", "{u}a ({u}b, c)"},
		{"<a xmlns:p='u' xmlns:q='v'><p:b/><q:c/></a>", "a ({u}b, {v}c)"},
		{"<a xmlns:p='u'><p:b xmlns:p='v'><p:c/></p:b><p:b/></a>", "a ({v}b ({v}c), {u}b)"},
		{"<a xmlns='u' xmlns:p='v'><p:b/><c p:x='1' x='2'/></a>", `{u}a ({v}b, {u}c {v}x="1" x="2")`},
		{"<a p:x='1' xmlns:p='u'/>", `a {u}x="1"`},
		{"<a xmlns:p='u' xmlns:q='u'><p:b></p:b><q:b p:x='1' q:y='2'/></a>", `a ({u}b, {u}b {u}x="1" {u}y="2")`},
		{"<a xmlns:p='u' xmlns:q='v' p:x='1' q:x='2' x='3'/>", `a {u}x="1" {v}x="2" x="3"`},
		{"<a xmlns='u' xmlns:p='u' p:x='1' x='2'/>", `{u}a {u}x="1" x="2"`},
		{"<xml:a/>", xmlSpace + "a"},
		{"<a xml:lang='en'/>", "a " + xmlSpace + `lang="en"`},
		{"<xml:a xmlns:xml='u'><xml:b/></xml:a>", "{u}a ({u}b)"},
		{"<xmlns:a xmlns:xmlns='u' xmlns:p='v'><p:b/></xmlns:a>", "{u}a ({v}b)"},
		{"<a xmlns:xmlns='u' xmlns:q='u' q:q='x' q:xmlns='y'/>", `a {u}q="x" {u}xmlns="y"`},
		{"<xmlns xmlns='u'/>", "{u}xmlns"},
		{"<p:xmlns xmlns:p='u' p:xmlns='v'/>", `{u}xmlns {u}xmlns="v"`},
		{"<a xmlns=' '/>", "{ }a"},
		{"<a xmlns='&lt;&#65;'/>", "{<A}a"},
		{"<a xmlns:p='&#32;'><p:b/></a>", "a ({ }b)"},
		{"<a xmlns:P='u' xmlns:p='v'><P:b/><p:b/></a>", "a ({u}b, {v}b)"},
		{"<a><b xmlns:p='u'/><b xmlns:p='v'><p:c/></b></a>", "a (b, b ({v}c))"},
		{"<p:a/>", ""},
		{"<p:a></p:a>", ""},
		{"<a p:x='1'/>", ""},
		{"<a xmlns='u'><p:b/></a>", ""},
		{"<a xmlns:q='u'><p:b/></a>", ""},
		{"<a><b xmlns:p='u'/><p:c/></a>", ""},
		{"<a><b xmlns:p='u'></b><c p:x='1'/></a>", ""},
		{"<p:a><b xmlns:p='u'/></p:a>", ""},
		{"<XML:a/>", ""},
		{"<xmlns:a/>", ""},
		{"<a xmlns:p=''/>", ""},
		{"<a xmlns:xml=''/>", ""},
		{"<a xmlns:p='u'><p:b xmlns:p=''/></a>", ""},
		{"<a xmlns='u' xmlns='u'/>", ""},
		{"<a xmlns='u' xmlns='v'/>", ""},
		{"<a xmlns:p='u' xmlns:p='v'/>", ""},
		{"<a xmlns:p='u' xmlns:q='u' p:x='1' q:x='1'/>", ""},
		{"<a xmlns:p='u' p:x='1' p:x='2'/>", ""},
		{"<a xmlns:p='u'><b xmlns:q='u' q:x='1' y='' p:x='2'/></a>", ""},
		{"<a xmlns:p='http://www.w3.org/XML/1998/namespace' xml:x='1' p:x='2'/>", ""},
		{"<p:a xmlns:p='u' xmlns:q='u'></q:a>", ""},
		{"<p:a xmlns:p='u'></a>", ""},
		{"<a xmlns='u' xmlns:p='u'></p:a>", ""},
	} {
		if c[1] == "" {
			refused(t, c[0], api.ErrForm)
			continue
		}
		reads(t, c[0], c[1])
	}
}

// nested gives elements in one another.
func nested(n int, inner string) string {
	return strings.Repeat("<a>", n) + inner + strings.Repeat("</a>", n)
}

// attributes gives so many attributes.
func attributes(n int) string {
	s := ""
	for i := range n {
		s += fmt.Sprintf(" x%d=''", i)
	}
	return s
}

func TestP17_1Full(t *testing.T) {
	for _, c := range []struct {
		s    string
		want api.Errno
	}{
		{nested(8, ""), api.OK}, {nested(9, ""), api.ErrFull}, {nested(7, "<b/><b/>"), api.OK}, {nested(8, "<b/>"), api.ErrFull}, {nested(8, "<b></b>"), api.ErrFull}, {nested(8, "<!---->t<![CDATA[<b/>]]>"), api.OK}, {nested(1000, ""), api.ErrFull},
		{"<a>" + strings.Repeat("<b/>", 63) + "</a>", api.OK}, {"<a>" + strings.Repeat("<b/>", 64) + "</a>", api.ErrFull}, {"<a>" + strings.Repeat("<b><c/></b>", 31) + "<d/></a>", api.OK}, {"<a>" + strings.Repeat("<b><c/></b>", 32) + "</a>", api.ErrFull}, {"<a>" + strings.Repeat("<b></b>", 64) + "</a>", api.ErrFull}, {"<a>" + strings.Repeat("<b/>", 2000) + "</a>", api.ErrFull},
		{"<a" + attributes(16) + "/>", api.OK}, {"<a" + attributes(17) + "/>", api.ErrFull}, {"<a xmlns='u'" + attributes(15) + "/>", api.OK}, {"<a xmlns='u'" + attributes(16) + "/>", api.ErrFull}, {"<a" + attributes(16) + " xmlns:p='u'></a>", api.ErrFull}, {"<a><b" + attributes(16) + "/><c" + attributes(16) + "/></a>", api.OK}, {"<a><b><c" + attributes(17) + "/></b></a>", api.ErrFull},
		{"<a xmlns:p='u'" + strings.ReplaceAll(attributes(15), " x", " p:x") + "/>", api.OK}, {"<a xmlns:p='u'" + strings.ReplaceAll(attributes(16), " x", " p:x") + "/>", api.ErrFull},
	} {
		e, fault := xml.Parse([]byte(c.s))
		if fault != c.want || fault != api.OK && !same(e, api.Element{}) {
			t.Errorf("%.100q: %v, not %v", c.s, fault, c.want)
		}
	}
}

// ErrLong comes ahead of ErrForm, and that ahead of ErrFull, wherever each is.
func TestP17_1Order(t *testing.T) {
	fill := func(n int) string { return "<a>" + strings.Repeat("x", n-len("<a></a>")) + "</a>" }
	reads(t, fill(8192), fmt.Sprintf("a %q", strings.Repeat("x", 8192-7)))
	refused(t, fill(8193), api.ErrLong)
	refused(t, strings.Repeat("\x00", 8193), api.ErrLong)
	refused(t, strings.Repeat("<a>", 3000), api.ErrLong)
	refused(t, strings.Repeat("\x00", 8192), api.ErrForm)
	refused(t, strings.Repeat(" ", 8192), api.ErrForm)
	refused(t, strings.Repeat("<a>", 2730), api.ErrForm)
	refused(t, nested(9, "")+"x", api.ErrForm)
	refused(t, nested(9, "<p:b/>"), api.ErrForm)
	refused(t, nested(9, "")+" <!--", api.ErrForm)
	refused(t, nested(9, "<!--\x01-->"), api.ErrForm)
	refused(t, "<a>"+strings.Repeat("<b/>", 64)+"&x;</a>", api.ErrForm)
	refused(t, "<a>"+strings.Repeat("<b/>", 64)+"</b>", api.ErrForm)
	refused(t, "<a"+attributes(17)+" x3=''/>", api.ErrForm)
	refused(t, "<a"+attributes(17)+" xmlns:p=''/>", api.ErrForm)
	refused(t, "<a"+attributes(1000)+">", api.ErrForm)
}
