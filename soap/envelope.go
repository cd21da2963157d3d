package soap

import (
	"strconv"
	"strings"

	"hearth/api"
)

// The spaces.
const (
	envelopes = "http://schemas.xmlsoap.org/soap/envelope/"
	encoding  = "http://schemas.xmlsoap.org/soap/encoding/"
	control   = "urn:schemas-upnp-org:control-1-0"
)

func is(e api.Element, space, name string) bool {
	return e.Space == space && e.Name == name
}

// blank tells whether nothing but blanks stands in an element beside its own ones.
func blank(e api.Element) bool {
	return strings.Trim(e.Text, " \t\r\n") == ""
}

// first gives the first element of that name, or a zero one, whose name is none.
func first(list []api.Element, space, name string) api.Element {
	for _, e := range list {
		if is(e, space, name) {
			return e
		}
	}
	return api.Element{}
}

// inside gives what an envelope's Body holds, or a zero element of what is no envelope.
func inside(e api.Element) api.Element {
	if !is(e, envelopes, "Envelope") || !blank(e) {
		return api.Element{}
	}
	kids := e.Kids
	if len(kids) == 2 && is(kids[0], envelopes, "Header") {
		kids = kids[1:]
	}
	if len(kids) != 1 || !is(kids[0], envelopes, "Body") || !blank(kids[0]) || len(kids[0].Kids) != 1 {
		return api.Element{}
	}
	return kids[0].Kids[0]
}

// callOf gives the call that an element tells.
func callOf(e api.Element) (api.Call, bool) {
	if e.Space == "" || len(e.Kids) > api.MaxArgs {
		return api.Call{}, false
	}
	c := api.Call{Service: e.Space, Action: e.Name}
	for _, kid := range e.Kids {
		c.Args = append(c.Args, api.Arg{Name: kid.Name, Value: kid.Text})
		if len(kid.Kids) > 0 {
			return api.Call{}, false
		}
	}
	return c, !twice(c.Args)
}

// twice tells whether two arguments have one name.
func twice(list []api.Arg) bool {
	for i, a := range list {
		if _, there := Find(list[:i], a.Name); there {
			return true
		}
	}
	return false
}

func actionOf(c api.Call) api.Element {
	var kids []api.Element
	for _, a := range c.Args {
		kids = append(kids, leaf("", a.Name, a.Value))
	}
	return branch(c.Service, c.Action, kids...)
}

func faultOf(code int, words string) api.Element {
	tells := branch(control, "UPnPError", leaf(control, "errorCode", strconv.Itoa(code)), leaf(control, "errorDescription", words))
	return branch(envelopes, "Fault", leaf("", "faultcode", "s:Client"), leaf("", "faultstring", "UPnPError"), branch("", "detail", tells))
}

func envelope(inner api.Element) api.Element {
	e := branch(envelopes, "Envelope", branch(envelopes, "Body", inner))
	e.Attrs = []api.Attr{{Space: envelopes, Name: "encodingStyle", Value: encoding}}
	return e
}

func leaf(space, name, text string) api.Element {
	return api.Element{Space: space, Name: name, Text: text}
}

func branch(space, name string, kids ...api.Element) api.Element {
	return api.Element{Space: space, Name: name, Kids: kids}
}
