package xml

import (
	"strings"

	"hearth/api"
)

// naming is the prefix, and the name, of attributes that name spaces.
const naming = "xmlns"

// tag is what an element begins with: its full name, and whether nothing is in it.
type tag struct {
	name  string
	attrs []attribute
	empty bool
}

// attribute is one as it stands in a tag, with its full name.
type attribute struct{ name, value string }

// scope is where a prefix has a space, within another scope; of names without a prefix it is empty.
type scope struct {
	prefix, space string
	around        *scope
}

// find gives a prefix's space.
func (s *scope) find(prefix string) (string, bool) {
	for ; s != nil; s = s.around {
		if s.prefix == prefix {
			return s.space, true
		}
	}
	switch prefix {
	case "":
		return "", true
	case "xml":
		return "http://www.w3.org/XML/1998/namespace", true
	}
	return "", false
}

// split gives the parts of a full name.
func split(full string) (prefix, name string, ok bool) {
	prefix, name, two := strings.Cut(full, ":")
	if !two {
		return "", full, Name(full)
	}
	return prefix, name, Name(prefix) && Name(name)
}

// names tells of which prefix an attribute names the space.
func (a attribute) names() (string, bool) {
	if a.name == naming {
		return "", true
	}
	return strings.CutPrefix(a.name, naming+":")
}

// within gives the element that a tag begins, without what is in it, and the scope in which that is.
func (t tag) within(around *scope) (api.Element, *scope, bool) {
	in, ok := t.scope(around)
	attrs, right := t.others(in)
	prefix, name, full := split(t.name)
	space, known := in.find(prefix)
	if !ok || !right || !full || !known || twice(t.attrs, fullName) {
		return api.Element{}, nil, false
	}
	return api.Element{Space: space, Name: name, Attrs: attrs}, in, true
}

// scope gives the scope that a tag's attributes make.
func (t tag) scope(around *scope) (*scope, bool) {
	for _, a := range t.attrs {
		prefix, ok := a.names()
		if !ok {
			continue
		}
		if prefix != "" && a.value == "" {
			return nil, false
		}
		around = &scope{prefix: prefix, space: a.value, around: around}
	}
	return around, true
}

// others gives a tag's attributes, but those that name spaces.
func (t tag) others(in *scope) ([]api.Attr, bool) {
	var list []api.Attr
	for _, a := range t.attrs {
		prefix, name, ok := split(a.name)
		if !ok {
			return nil, false
		}
		if _, names := a.names(); names {
			continue
		}
		space := ""
		if prefix != "" {
			space, ok = in.find(prefix)
		}
		if !ok {
			return nil, false
		}
		list = append(list, api.Attr{Space: space, Name: name, Value: a.value})
	}
	return list, !twice(list, bare)
}

func fullName(a attribute) string { return a.name }

// bare gives an attribute without its value.
func bare(a api.Attr) api.Attr {
	return api.Attr{Space: a.Space, Name: a.Name}
}

// twice tells whether two things of a list have one key.
func twice[T any, K comparable](list []T, key func(T) K) bool {
	seen := map[K]int{}
	for i, x := range list {
		seen[key(x)] = i
	}
	return len(seen) < len(list)
}
