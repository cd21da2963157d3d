package igd

import (
	"slices"
	"strings"

	"hearth/api"
	"hearth/inet"
	"hearth/value"
	"hearth/xml"
)

// mostListed is of how many mappings a listing tells.
const mostListed = 8

// args gives arguments of their names, each with its value behind it.
func args(pairs ...string) []api.Arg {
	var out []api.Arg
	for i := 1; i < len(pairs); i += 2 {
		out = append(out, api.Arg{Name: pairs[i-1], Value: pairs[i]})
	}
	return out
}

// addressText gives an address as it is told: empty, if there is none.
func addressText(a api.Addr) string {
	if a == 0 {
		return ""
	}
	return inet.Text(a)
}

// from gives whence what a mapping lets in comes.
func from(e api.Entry) []api.Arg {
	return args(
		argRemote, addressText(e.Remote),
		argExternal, value.Text(uint64(e.Ext)),
		argProtocol, value.Way(e.Proto))
}

// to gives where that goes, if it does.
func to(e api.Entry) []api.Arg {
	return args(
		argInternal, value.Text(uint64(e.To)),
		argClient, addressText(e.Host),
		argEnabled, value.Yes(e.Enabled))
}

// about gives what else is told of a mapping.
func about(e api.Entry, now uint64) []api.Arg {
	return args(argWords, e.Words, argLease, left(e, now))
}

// left gives the seconds for which a mapping is still there.
func left(e api.Entry, now uint64) string {
	return value.Text(e.Ends - min(e.Ends, now))
}

// listing gives the first ones of some mappings as a text.
func listing(all []api.Entry, now uint64) string {
	var entries []string
	for _, e := range all[:min(len(all), mostListed)] {
		entries = append(entries, listed(e, now))
	}
	return element(`p:PortMappingList xmlns:p="urn:schemas-upnp-org:gw:WANIPConnection"`, entries...)
}

// listed gives a mapping as a part of a listing, where some things are named otherwise than in arguments.
func listed(e api.Entry, now uint64) string {
	var parts []string
	for _, a := range slices.Concat(from(e), to(e), args("NewDescription", e.Words, "NewLeaseTime", left(e, now))) {
		parts = append(parts, leaf("p:"+a.Name, a.Value))
	}
	return element("p:PortMappingEntry", parts...)
}

// leaf gives an element that has only a text.
func leaf(name, text string) string { return element(name, xml.Escape(text)) }

// element gives an element by what stands in its tag, and what is in it.
func element(tag string, parts ...string) string {
	name, _, _ := strings.Cut(tag, " ")
	return "<" + tag + ">" + strings.Join(parts, "") + "</" + name + ">"
}

// document gives the bytes of a whole text.
func document(root string) []byte {
	return []byte(`<?xml version="1.0"?>` + "\n" + root)
}
