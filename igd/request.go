package igd

import (
	"hearth/api"
	"hearth/soap"
	"hearth/value"
)

// The arguments with which actions are asked.
const (
	argType     = "NewConnectionType"
	argIndex    = "NewPortMappingIndex"
	argRemote   = "NewRemoteHost"
	argExternal = "NewExternalPort"
	argProtocol = "NewProtocol"
	argInternal = "NewInternalPort"
	argClient   = "NewInternalClient"
	argEnabled  = "NewEnabled"
	argWords    = "NewPortMappingDescription"
	argLease    = "NewLeaseDuration"
	argStart    = "NewStartPort"
	argEnd      = "NewEndPort"
	argManage   = "NewManage"
	argCount    = "NewNumberOfPorts"
)

const (
	mostPort   = 65535
	mostNumber = 4294967295
)

// kind is what an argument's text has to be.
type kind int

const (
	kindWords kind = iota
	kindPort
	kindNumber
	kindAddress
	kindProtocol
	kindFlag
)

// kindOf gives the kind of an argument.
func kindOf(name string) kind {
	switch name {
	case argExternal, argInternal, argStart, argEnd, argIndex, argCount:
		return kindPort
	case argLease:
		return kindNumber
	case argRemote, argClient:
		return kindAddress
	case argProtocol:
		return kindProtocol
	case argEnabled, argManage:
		return kindFlag
	}
	return kindWords
}

// holds tells whether a text is of a kind.
func (k kind) holds(s string) (ok bool) {
	switch k {
	case kindPort:
		_, ok = value.Num(s, mostPort)
	case kindNumber:
		_, ok = value.Num(s, mostNumber)
	case kindAddress:
		_, ok = value.Addr(s)
	case kindProtocol:
		_, ok = value.Proto(s)
	case kindFlag:
		_, ok = value.Flag(s)
	default:
		ok = value.Words(s)
	}
	return ok
}

// right tells whether there are just the arguments of these names, each of its kind.
func right(list []api.Arg, names []string) bool {
	// As many as there are names, and all of those among them: none is there twice, and no other one.
	if len(list) != len(names) {
		return false
	}
	for _, name := range names {
		text, there := soap.Find(list, name)
		if !there || !kindOf(name).holds(text) {
			return false
		}
	}
	return true
}

// request is an action's call with the right arguments. What is asked of it and isn't among them is zero.
type request struct {
	Scene
	args []api.Arg
}

func (r request) text(name string) string {
	s, _ := soap.Find(r.args, name)
	return s
}

func (r request) number(name string) uint64 {
	n, _ := value.Num(r.text(name), mostNumber)
	return n
}

func (r request) port(name string) uint16 { return uint16(r.number(name)) }

func (r request) address(name string) api.Addr {
	a, _ := value.Addr(r.text(name))
	return a
}

func (r request) proto() byte {
	p, _ := value.Proto(r.text(argProtocol))
	return p
}

// entry gives the mapping that is asked for, or asked after.
func (r request) entry() api.Entry {
	on, _ := value.Flag(r.text(argEnabled))
	return api.Entry{
		Mapping: api.Mapping{
			Proto: r.proto(), Ext: r.port(argExternal), To: r.port(argInternal),
			Remote: r.address(argRemote), Host: r.address(argClient),
		},
		Enabled: on,
		Words:   r.text(argWords),
	}
}
