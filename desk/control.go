package desk

import (
	"strings"

	"hearth/api"
	"hearth/head"
	"hearth/igd"
	"hearth/soap"
)

// control gives what a host's call of an action is answered.
func (d *Desk) control(r api.Request, who api.Addr, now uint64) reply {
	if !isXML(r) {
		return reply{status: 415}
	}
	call, ok := callOf(r)
	if !ok {
		return reply{status: 400}
	}
	answer, code := igd.Do(igd.Scene{Set: d.Maps, Conf: d.conf, Who: who, Now: now}, call)
	if code != 0 {
		return fault(code)
	}
	body, err := soap.Encode(answer)
	if err != api.OK {
		// Nothing has changed by that: only a list of mappings can be too long.
		return fault(api.ActionFailed)
	}
	return document(200, body)
}

// isXML tells whether a request's body may be XML by what its head tells of it.
func isXML(r api.Request) bool {
	types := head.Get(r.Fields, "content-type")
	if len(types) == 0 {
		return true
	}
	kind, _, _ := strings.Cut(types[0], ";")
	return head.Same(strings.TrimRight(kind, " "), "text/xml")
}

// callOf gives the call of a request, if its head tells of just that one.
func callOf(r api.Request) (api.Call, bool) {
	headers := head.Get(r.Fields, "soapaction")
	if len(headers) != 1 {
		return api.Call{}, false
	}
	service, action, ok := soap.Header(headers[0])
	call, err := soap.Decode(r.Body)
	if !ok || err != api.OK || call.Service != service || call.Action != action {
		return api.Call{}, false
	}
	return call, true
}
