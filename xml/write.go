package xml

import (
	"strconv"

	"hearth/api"
)

// formed tells whether all names and texts of a tree are such as may be written.
func formed(e api.Element) bool {
	for _, x := range through(e) {
		if !Name(x.Name) || !clean(x.Space) || !clean(x.Text) || twice(x.Attrs, bare) {
			return false
		}
		for _, a := range x.Attrs {
			if !Name(a.Name) || !clean(a.Space) || !clean(a.Value) || a.Space == "" && a.Name == naming {
				return false
			}
		}
	}
	return true
}

// fits tells whether a tree, as it is written, is one of as much as Parse takes.
func fits(e api.Element) bool {
	count := 0
	for deep, x := range through(e) {
		count++
		if count > api.MaxElements || deep >= api.MaxDeep || attrsOf(x) > api.MaxAttrs {
			return false
		}
	}
	return true
}

// attrsOf gives how many attributes an element is written with: those that name spaces are among them.
func attrsOf(e api.Element) int {
	n := 1 + len(e.Attrs)
	for _, a := range e.Attrs {
		if a.Space != "" {
			n++
		}
	}
	return n
}

// least gives how many bytes the texts of a tree take, if none is escaped: what is too long by that isn't written at all.
func least(e api.Element) int {
	n := 0
	for _, x := range through(e) {
		n += len(x.Space) + len(x.Text)
		for _, a := range x.Attrs {
			n += len(a.Space) + len(a.Value)
		}
	}
	return n
}

// lay lays an element behind what is there.
func lay(b []byte, e api.Element) []byte {
	b = put(b, "<", e.Name, ` xmlns="`, Escape(e.Space), `"`)
	for i, a := range e.Attrs {
		b = put(b, " ")
		if a.Space != "" {
			p := "p" + strconv.Itoa(i)
			b = put(b, "xmlns:", p, `="`, Escape(a.Space), `" `, p, ":")
		}
		b = put(b, a.Name, `="`, escape(a.Value, "\t\n\r"), `"`)
	}
	b = put(b, ">", escape(e.Text, "\r"))
	for _, kid := range e.Kids {
		b = lay(b, kid)
	}
	return put(b, "</", e.Name, ">")
}

func put(b []byte, texts ...string) []byte {
	for _, s := range texts {
		b = append(b, s...)
	}
	return b
}
