package xml_test

import (
	encoding "encoding/xml"
	"fmt"
	"io"
	"maps"
	"math/rand"
	"regexp"
	"slices"
	"strconv"
	"strings"
	"testing"

	"hearth/api"
	"hearth/xml"
)

// The parts of documents, as the chapter tells them.
const (
	aName  = `[A-Za-z_][A-Za-z_0-9.-]{0,63}`
	aFull  = aName + `(?::` + aName + `)?`
	aBlank = `[ \t\r\n]`
	anAttr = aBlank + `+(` + aFull + `)` + aBlank + `*=` + aBlank + `*("[^"<]*"|'[^'<]*')`
)

var (
	declared  = regexp.MustCompile(`^<\?xml(?s:.*?)\?>`)
	aside     = regexp.MustCompile(`^(?:` + aBlank + `|<!--(?s:.*?)-->)*`)
	comment   = regexp.MustCompile(`^<!--(?s:.*?)-->`)
	cdata     = regexp.MustCompile(`^<!\[CDATA\[(?s:(.*?))\]\]>`)
	starting  = regexp.MustCompile(`^<(` + aFull + `)((?:` + anAttr + `)*)` + aBlank + `*(/?)>`)
	ending    = regexp.MustCompile(`^</(` + aFull + `)` + aBlank + `*>`)
	texts     = regexp.MustCompile(`^[^<]+`)
	attrs     = regexp.MustCompile(anAttr)
	reference = regexp.MustCompile(`&(?:(lt|gt|amp|quot|apos)|#([0-9]{1,7})|#x([0-9A-Fa-f]{1,6}));`)
	control   = regexp.MustCompile(`[\x00-\x08\x0b\x0c\x0e-\x1f]`)
)

// node is an element as it stands in a document.
type node struct {
	full  string
	attrs [][2]string
	text  string
	fine  bool // its texts and values are right
	kids  []*node
}

// modelParse reads a document by the chapter's words: what it is, or why it isn't one.
func modelParse(s string) (api.Element, string) {
	if len(s) > 8192 {
		return api.Element{}, "long"
	}
	if control.MatchString(s) {
		return api.Element{}, "form: byte"
	}
	s = s[len(declared.FindString(s)):]
	s = s[len(aside.FindString(s)):]
	root, rest, why := modelTree(s)
	if why != "" {
		return api.Element{}, why
	}
	if rest[len(aside.FindString(rest)):] != "" {
		return api.Element{}, "form: behind"
	}
	e, why := modelSpaces(root, map[string]string{"": "", "xml": "http://www.w3.org/XML/1998/namespace"})
	if why == "" {
		why = modelFull(root)
	}
	if why != "" {
		return api.Element{}, why
	}
	return e, "ok"
}

// modelTree gives the element that a text begins with, and what is behind it.
func modelTree(s string) (*node, string, string) {
	over := &node{}
	stack := []*node{over}
	for {
		top := stack[len(stack)-1]
		within := len(stack) > 1
		if m := comment.FindString(s); m != "" && within {
			s = s[len(m):]
		} else if m := cdata.FindStringSubmatch(s); m != nil && within {
			top.text += m[1]
			s = s[len(m[0]):]
		} else if m := starting.FindStringSubmatch(s); m != nil {
			kid := modelNode(m)
			top.kids = append(top.kids, kid)
			if m[len(m)-1] == "" {
				stack = append(stack, kid)
			}
			s = s[len(m[0]):]
		} else if m := ending.FindStringSubmatch(s); m != nil && within {
			if m[1] != top.full {
				return nil, "", "form: end"
			}
			stack = stack[:len(stack)-1]
			s = s[len(m[0]):]
		} else if m := texts.FindString(s); m != "" && within {
			text, fine := modelPlain(m)
			top.text += text
			top.fine = top.fine && fine
			s = s[len(m):]
		} else if s == "" && within {
			return nil, "", "form: open"
		} else {
			return nil, "", "form: tag"
		}
		if len(stack) == 1 {
			return over.kids[0], s, ""
		}
	}
}

func modelNode(m []string) *node {
	n := &node{full: m[1], fine: true}
	for _, a := range attrs.FindAllStringSubmatch(m[2], -1) {
		value, fine := modelPlain(a[2][1 : len(a[2])-1])
		n.attrs = append(n.attrs, [2]string{a[1], value})
		n.fine = n.fine && fine
	}
	return n
}

func modelPlain(s string) (string, bool) {
	if strings.Contains(reference.ReplaceAllLiteralString(s, ""), "&") {
		return "", false
	}
	fine := true
	out := reference.ReplaceAllStringFunc(s, func(one string) string {
		m := reference.FindStringSubmatch(one)
		if m[1] != "" {
			return map[string]string{"lt": "<", "gt": ">", "amp": "&", "quot": "\"", "apos": "'"}[m[1]]
		}
		n, _ := strconv.ParseInt(m[2], 10, 64)
		if m[3] != "" {
			n, _ = strconv.ParseInt(m[3], 16, 64)
		}
		fine = fine && (n == 9 || n == 10 || n == 13 || 32 <= n && n <= 55295 || 57344 <= n && n <= 65533 || 65536 <= n && n <= 1114111)
		return string(rune(n))
	})
	return out, fine
}

// modelSpaces gives a node as an element, or why it is none.
func modelSpaces(n *node, around map[string]string) (api.Element, string) {
	if !n.fine {
		return api.Element{}, "form: reference"
	}
	spaces := maps.Clone(around)
	fulls := map[string]bool{}
	for _, a := range n.attrs {
		if fulls[a[0]] {
			return api.Element{}, "form: full name twice"
		}
		fulls[a[0]] = true
		if p, found := strings.CutPrefix(a[0], "xmlns:"); found {
			if a[1] == "" {
				return api.Element{}, "form: empty space"
			}
			spaces[p] = a[1]
		} else if a[0] == "xmlns" {
			spaces[""] = a[1]
		}
	}
	resolve := func(full string) (string, string, bool) {
		if !strings.Contains(full, ":") {
			full = ":" + full
		}
		at := strings.Index(full, ":")
		space, known := spaces[full[:at]]
		return space, full[at+1:], known
	}
	e := api.Element{Text: n.text}
	var known bool
	if e.Space, e.Name, known = resolve(n.full); !known {
		return api.Element{}, "form: prefix of an element"
	}
	for _, a := range n.attrs {
		if a[0] == "xmlns" || strings.HasPrefix(a[0], "xmlns:") {
			continue
		}
		x := api.Attr{Name: a[0], Value: a[1]}
		if strings.Contains(a[0], ":") {
			if x.Space, x.Name, known = resolve(a[0]); !known {
				return api.Element{}, "form: prefix of an attribute"
			}
		}
		if slices.ContainsFunc(e.Attrs, func(y api.Attr) bool { return x.Space == y.Space && x.Name == y.Name }) {
			return api.Element{}, "form: space and name twice"
		}
		e.Attrs = append(e.Attrs, x)
	}
	for _, kid := range n.kids {
		x, why := modelSpaces(kid, spaces)
		if why != "" {
			return api.Element{}, why
		}
		e.Kids = append(e.Kids, x)
	}
	return e, ""
}

// modelFull tells of what there is too much.
func modelFull(root *node) string {
	count, deepest, most := 0, 0, 0
	var visit func(n *node, deep int)
	visit = func(n *node, deep int) {
		count, deepest, most = count+1, max(deepest, deep), max(most, len(n.attrs))
		for _, kid := range n.kids {
			visit(kid, deep+1)
		}
	}
	visit(root, 1)
	switch {
	case count > 64:
		return "full: elements"
	case deepest > 8:
		return "full: deep"
	case most > 16:
		return "full: attributes"
	}
	return ""
}

// oneOf gives one of several texts, the first one oftener.
func oneOf(r *rand.Rand, texts ...string) string {
	if r.Intn(3) > 0 {
		return texts[0]
	}
	return texts[r.Intn(len(texts))]
}

// seldom gives a text, but mostly none.
func seldom(r *rand.Rand, n int, texts ...string) string {
	if r.Intn(n) > 0 {
		return ""
	}
	return texts[r.Intn(len(texts))]
}

// document gives a text that is a document, or near to one.
func document(r *rand.Rand) string {
	s := seldom(r, 4, "<?xml?>", "<?xml version='1.0'?>\n", "<?xml", " <?xml?>")
	s += seldom(r, 4, " ", "<!-- x -->", "<!---->\r\n<!--y-->", "<!-- -")
	inner := element(r, 1+r.Intn(10), 0)
	if r.Intn(20) == 0 {
		inner = nested(r.Intn(10), inner+strings.Repeat("<b/>", r.Intn(2)*(50+r.Intn(16))))
	}
	s += inner
	s += seldom(r, 5, " ", "<!-- x -->", "\t<!--y-->\n", "x", "<b/>")
	if r.Intn(6) == 0 && s != "" {
		i := r.Intn(len(s))
		s = s[:i] + oneOf(r, "", "<", ">", "&", "/", ":", "'", " ", "\x01", "x", "=", "\xff", "-", "]") + s[min(len(s), i+r.Intn(3)):]
	}
	if r.Intn(60) == 0 {
		s = strings.Replace(s, "t", strings.Repeat("t", 8000+r.Intn(400)), 1)
	}
	return s
}

func fullOf(r *rand.Rand) string {
	return oneOf(r, "", "p:", "q:", "p:", "xml:") + string("abc"[r.Intn(3)])
}

func blanksOf(r *rand.Rand) string { return oneOf(r, "", " ", "\n\t") }

func attributeOf(r *rand.Rand) string {
	name := oneOf(r, string("xyzuvw"[r.Intn(6)])+oneOf(r, "", "1", "2", "3"), "xmlns", "xmlns:p", "xmlns:q", "p:x", "q:x", "p:y", "xml:x", "xmlns:xml")
	mark := oneOf(r, "'", "\"")
	return oneOf(r, " ", "\n", "  ") + name + blanksOf(r) + "=" + blanksOf(r) + mark + oneOf(r, string("uvw"[r.Intn(3)]), "u", "v", "", "&lt;", "a&amp;&#65;", "\t ", "&x;") + mark
}

func element(r *rand.Rand, width, deep int) string {
	name := fullOf(r)
	s := "<" + name + seldom(r, 2, " xmlns:p='u'", " xmlns:p='v' xmlns:q='u'", " xmlns='w'")
	if deep == 0 {
		s = "<" + name + oneOf(r, " xmlns:p='u' xmlns:q='v'", " xmlns:p='u' xmlns:q='u'", "")
	}
	for range r.Intn(4) {
		s += attributeOf(r)
	}
	if r.Intn(60) == 0 {
		s += attributes(10 + r.Intn(8))
	}
	s += blanksOf(r)
	if r.Intn(4) == 0 || deep > 10 {
		return s + "/>"
	}
	s += ">"
	for range r.Intn(3) {
		s += content(r, width, deep)
	}
	if (r.Intn(4) == 0 || width > 8) && deep < 5 {
		for range r.Intn(2*width + 1) {
			s += element(r, width/3, deep+1+r.Intn(3))
		}
	}
	return s + "</" + oneOf(r, name, name, name, name, name, name, name, "a") + blanksOf(r) + ">"
}

func content(r *rand.Rand, width, deep int) string {
	switch r.Intn(5) {
	case 0:
		return "<![CDATA[" + oneOf(r, "t", "<a>", "]]", "&lt;") + "]]>"
	case 1:
		return "<!--" + oneOf(r, "t", "<a>", "--", "") + "-->"
	case 2:
		return oneOf(r, "t", "&lt;&gt;", "&#65;&#x42;", "&#1114111;&apos;&quot;", "\r\n", "&#55296;", "&#0;", "&", "&lt", "]]>")
	}
	return element(r, width/2, deep+1)
}

func TestP17_1ByTheModel(t *testing.T) {
	seen := map[string]int{}
	for seed := range int64(40000) {
		s := document(rand.New(rand.NewSource(seed)))
		want, why := modelParse(s)
		seen[why]++
		kind, _, _ := strings.Cut(why, ":")
		e, fault := xml.Parse([]byte(s))
		if fault != map[string]api.Errno{"ok": api.OK, "form": api.ErrForm, "full": api.ErrFull, "long": api.ErrLong}[kind] || !same(e, want) {
			t.Fatalf("seed %d: %.300q: %.200s, %v, not %.200s, %q", seed, s, show(e), fault, show(want), why)
		}
	}
	for _, why := range strings.Split("ok,long,form: byte,form: behind,form: end,form: open,form: tag,form: reference,form: full name twice,form: empty space,form: prefix of an element,form: prefix of an attribute,form: space and name twice,full: elements,full: deep,full: attributes", ",") {
		if seen[why] < 10 {
			t.Errorf("%q was met %d times", why, seen[why])
		}
	}
}

// modelWrite writes an element by the chapter's words.
func modelWrite(e api.Element) ([]byte, api.Errno) {
	count, deepest, most, form := 0, 0, 0, false
	var visit func(e api.Element, deep int) string
	visit = func(e api.Element, deep int) string {
		count, deepest = count+1, max(deepest, deep)
		n, pairs, s := 1, map[string]int{}, "<"+e.Name+` xmlns="`+xml.Escape(e.Space)+`"`
		form = form || !xml.Name(e.Name) || control.MatchString(e.Space+e.Text)
		for i, a := range e.Attrs {
			pair := fmt.Sprintf("%q %q", a.Space, a.Name)
			pairs[pair]++
			form = form || !xml.Name(a.Name) || control.MatchString(a.Space+a.Value) || pairs[pair] > 1 || a.Space == "" && a.Name == "xmlns"
			n++
			s += " "
			if a.Space != "" {
				n++
				s += fmt.Sprintf(`xmlns:p%d="%s" p%d:`, i, xml.Escape(a.Space), i)
			}
			s += a.Name + `="` + strings.NewReplacer("\t", "&#9;", "\n", "&#10;", "\r", "&#13;").Replace(xml.Escape(a.Value)) + `"`
		}
		most = max(most, n)
		s += ">" + strings.ReplaceAll(xml.Escape(e.Text), "\r", "&#13;")
		for _, kid := range e.Kids {
			s += visit(kid, deep+1)
		}
		return s + "</" + e.Name + ">"
	}
	s := visit(e, 1)
	switch {
	case form:
		return nil, api.ErrForm
	case count > 64 || deepest > 8 || most > 16:
		return nil, api.ErrFull
	case len(s) > 8192:
		return nil, api.ErrLong
	}
	return []byte(s), api.OK
}

// tree gives an element, most of whose parts are right.
func tree(r *rand.Rand, deep int) api.Element {
	text := func() string {
		return oneOf(r, "", "t", "a<b>&\"'", "\t\r\n", "\u00e9\xff", " ", "]]>") + seldom(r, 300, "\x01", "\x0b", strings.Repeat("x", 7000+r.Intn(2000)))
	}
	name := func() string {
		return string("abcdefghijklmnop"[r.Intn(16)]) + seldom(r, 400, ":", " ", "\u00e9", strings.Repeat("n", 60+r.Intn(6)))
	}
	e := api.Element{Space: text(), Name: name(), Text: text()}
	for range r.Intn(1 << uint(r.Intn(4))) {
		e.Attrs = append(e.Attrs, api.Attr{Space: oneOf(r, "", "u", text()), Name: name() + seldom(r, 2, "1", "2", "3", "4") + seldom(r, 2, "1", "2", "3", "4"), Value: text()})
	}
	if r.Intn(100) == 0 {
		e.Attrs = append(e.Attrs, api.Attr{Space: oneOf(r, "", "u"), Name: "xmlns", Value: "u"})
	}
	for range r.Intn(1 << uint(r.Intn(4))) {
		if deep < 9 && r.Intn(3+deep) < 3 {
			e.Kids = append(e.Kids, tree(r, deep+1))
		}
	}
	return e
}

func TestP17_3P17_4ByTheModel(t *testing.T) {
	seen := map[api.Errno]int{}
	for seed := range int64(8000) {
		e := tree(rand.New(rand.NewSource(seed)), 0)
		want, code := modelWrite(e)
		b, fault := xml.Write(e)
		if fault != code || string(b) != string(want) {
			t.Fatalf("seed %d: %.200s: %.200q, %v, not %.200q, %v", seed, show(e), b, fault, want, code)
		}
		seen[fault]++
		if fault != api.OK {
			continue
		}
		if back, fault := xml.Parse(b); fault != api.OK || !same(back, e) {
			t.Fatalf("seed %d: Parse of %.200q: %.200s, %v", seed, b, show(back), fault)
		}
	}
	for _, code := range []api.Errno{api.OK, api.ErrForm, api.ErrFull, api.ErrLong} {
		if seen[code] < 20 {
			t.Errorf("%v was met %d times", code, seen[code])
		}
	}
}

// Another reader of XML reads what Write gives as the same, too.
func TestP17_3ByAnotherReader(t *testing.T) {
	met := 0
	for seed := range int64(4000) {
		e := tree(rand.New(rand.NewSource(seed)), 0)
		b, fault := xml.Write(e)
		if fault != api.OK || strings.Contains(string(b), "\xff") || strings.Contains(string(b), "\r") {
			continue
		}
		met++
		if got := otherReader(b); got != show(e) {
			t.Fatalf("seed %d: %.200q: %.200s, not %.200s", seed, b, got, show(e))
		}
	}
	if met < 100 {
		t.Errorf("only %d", met)
	}
}

func otherReader(b []byte) string {
	d := encoding.NewDecoder(strings.NewReader(string(b)))
	stack := []api.Element{{}}
	for {
		token, err := d.Token()
		if err == io.EOF && len(stack) == 1 && len(stack[0].Kids) == 1 {
			return show(stack[0].Kids[0])
		}
		last := len(stack) - 1
		switch x := token.(type) {
		case encoding.StartElement:
			e := api.Element{Space: x.Name.Space, Name: x.Name.Local}
			for _, a := range x.Attr {
				if a.Name.Space != "xmlns" && a.Name.Local != "xmlns" || a.Name.Space == "u" {
					e.Attrs = append(e.Attrs, api.Attr{Space: a.Name.Space, Name: a.Name.Local, Value: a.Value})
				}
			}
			stack = append(stack, e)
		case encoding.EndElement:
			stack[last-1].Kids = append(stack[last-1].Kids, stack[last])
			stack = stack[:last]
		case encoding.CharData:
			stack[last].Text += string(x)
		default:
			return fmt.Sprint("no document: ", err)
		}
	}
}
