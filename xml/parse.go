package xml

import (
	"strings"

	"hearth/api"
)

// reader goes through a document from its beginning on.
type reader struct {
	rest  string // what isn't read yet
	count int    // elements that have begun
	full  bool   // there are more of something than may be
}

// next takes a text, if that is what comes next.
func (r *reader) next(s string) bool {
	rest, ok := strings.CutPrefix(r.rest, s)
	r.rest = rest
	return ok
}

// upTo takes what is up to a text, and that text.
func (r *reader) upTo(s string) (string, bool) {
	ahead, rest, ok := strings.Cut(r.rest, s)
	if ok {
		r.rest = rest
	}
	return ahead, ok
}

// blanks takes blanks, and tells whether there are any.
func (r *reader) blanks() bool {
	size := len(r.rest)
	r.rest = strings.TrimLeft(r.rest, blanks)
	return len(r.rest) < size
}

// document takes all that there is.
func (r *reader) document() (api.Element, bool) {
	if !clean(r.rest) {
		return api.Element{}, false
	}
	if r.next("<?xml") {
		if _, ok := r.upTo("?>"); !ok {
			return api.Element{}, false
		}
	}
	if !r.beside() {
		return api.Element{}, false
	}
	e, ok := r.element(1, nil)
	if !ok || !r.beside() || r.rest != "" {
		return api.Element{}, false
	}
	return e, true
}

// beside takes the blanks and comments beside a document's element.
func (r *reader) beside() bool {
	for r.blanks() || strings.HasPrefix(r.rest, "<!--") {
		if r.next("<!--") {
			if _, ok := r.upTo("-->"); !ok {
				return false
			}
		}
	}
	return true
}

// element takes an element that is so deep, within the spaces of those around it.
func (r *reader) element(deep int, around *scope) (api.Element, bool) {
	t, ok := r.tag()
	if !ok {
		return api.Element{}, false
	}
	e, in, ok := t.within(around)
	if !ok {
		return api.Element{}, false
	}
	r.count++
	if deep > api.MaxDeep || r.count > api.MaxElements || len(t.attrs) > api.MaxAttrs {
		r.full = true
	}
	if t.empty {
		return e, true
	}
	e.Text, e.Kids, ok = r.content(deep, in)
	if !ok || !r.end(t.name) {
		return api.Element{}, false
	}
	return e, true
}

// end takes what an element of that full name ends with.
func (r *reader) end(name string) bool {
	if !r.next("</" + name) {
		return false
	}
	r.blanks()
	return r.next(">")
}

// tag takes what an element begins with.
func (r *reader) tag() (tag, bool) {
	ok := r.next("<")
	t := tag{name: r.name()}
	for ok {
		ahead := r.blanks()
		switch {
		case r.next(">"):
			return t, true
		case r.next("/>"):
			t.empty = true
			return t, true
		case !ahead:
			return tag{}, false
		}
		var a attribute
		a, ok = r.attribute()
		t.attrs = append(t.attrs, a)
	}
	return tag{}, false
}

// name takes what stands where a full name is to stand.
func (r *reader) name() string {
	size := 0
	for size < len(r.rest) && (inName(r.rest[size]) || r.rest[size] == ':') {
		size++
	}
	s := r.rest[:size]
	r.rest = r.rest[size:]
	return s
}

func (r *reader) attribute() (attribute, bool) {
	name := r.name()
	r.blanks()
	ok := r.next("=")
	r.blanks()
	value, right := r.value()
	return attribute{name: name, value: value}, ok && right
}

// value takes a value with the " or ' around it.
func (r *reader) value() (string, bool) {
	mark := `"`
	if !r.next(mark) {
		mark = "'"
		if !r.next(mark) {
			return "", false
		}
	}
	s, ok := r.upTo(mark)
	if !ok || strings.IndexByte(s, '<') >= 0 {
		return "", false
	}
	return plain(s)
}

// content takes all that is ahead of an element's end.
func (r *reader) content(deep int, in *scope) (text string, kids []api.Element, ok bool) {
	var b []byte
	for !strings.HasPrefix(r.rest, "</") {
		var part string
		var kid api.Element
		switch {
		case r.next("<!--"):
			_, ok = r.upTo("-->")
		case r.next("<![CDATA["):
			part, ok = r.upTo("]]>")
		case strings.HasPrefix(r.rest, "<"):
			kid, ok = r.element(deep+1, in)
			kids = append(kids, kid)
		default:
			part, ok = r.text()
		}
		if !ok {
			return "", nil, false
		}
		b = append(b, part...)
	}
	return string(b), kids, true
}

// text takes what is up to the next <.
func (r *reader) text() (string, bool) {
	size := strings.IndexByte(r.rest, '<')
	if size < 0 {
		return "", false
	}
	s := r.rest[:size]
	r.rest = r.rest[size:]
	return plain(s)
}
