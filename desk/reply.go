package desk

import (
	"slices"

	"hearth/api"
	"hearth/igd"
	"hearth/soap"
)

const (
	deviceTarget  = "/desc.xml"
	actionsTarget = "/ipc.xml"
	controlTarget = "/ctl/ipc"
	eventTarget   = "/evt/ipc"
)

// reply is a response but for whether the connection stays.
type reply struct {
	status int
	fields []api.Field
	body   []byte
}

// xmlType gives the field that tells that a body is XML.
func xmlType() api.Field {
	return api.Field{Name: "CONTENT-TYPE", Value: `text/xml; charset="utf-8"`}
}

// document gives a reply whose body is XML.
func document(status int, body []byte) reply {
	return reply{status, []api.Field{xmlType()}, body}
}

// fault gives the reply that tells an action's error.
func fault(code int) reply { return document(500, soap.Fault(code, igd.Words(code))) }

// reply gives what a request is answered.
func (d *Desk) reply(r api.Request, who api.Addr, now uint64, draw [2]uint64) reply {
	if status := refusal(r); status != 0 {
		return reply{status: status}
	}
	switch r.Method {
	case "GET":
		return document(200, d.description(r.Target))
	case "POST":
		return d.control(r, who, now)
	case "SUBSCRIBE":
		status, fields := d.Subs.Subscribe(r, who, now, draw)
		return reply{status: status, fields: fields}
	case "UNSUBSCRIBE":
		return reply{status: d.Subs.Unsubscribe(r, who)}
	}
	return reply{status: 200} // HEAD: of a description nothing but that it is there.
}

// refusal gives the status of a request that asks for nothing that is there, else 0.
func refusal(r api.Request) int {
	methods := methodsOf(r.Target)
	switch {
	case len(methods) == 0:
		return 404
	case !slices.Contains(methods, r.Method):
		return 405
	}
	return 0
}

// methodsOf gives the methods of a target, none of one that isn't there.
func methodsOf(target string) []string {
	switch target {
	case deviceTarget, actionsTarget:
		return []string{"GET", "HEAD"}
	case controlTarget:
		return []string{"POST"}
	case eventTarget:
		return []string{"SUBSCRIBE", "UNSUBSCRIBE"}
	}
	return nil
}

// description gives what stands at a target: the device's description, or the service's.
func (d *Desk) description(target string) []byte {
	if target == deviceTarget {
		return igd.Device(d.conf)
	}
	return igd.Actions()
}
