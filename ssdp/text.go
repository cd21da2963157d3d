package ssdp

import (
	"strconv"
	"strings"

	"hearth/api"
	"hearth/head"
	"hearth/inet"
)

const (
	lineEnd  = "\r\n"
	longest  = 1024    // bytes of a search
	mostWait = 9999999 // of an mx that is a number

	notify = "NOTIFY * HTTP/1.1"
	group  = "HOST: 239.255.255.250:1900"
	lasts  = "CACHE-CONTROL: max-age=1800"
	server = "SERVER: hearth/1 UPnP/1.1 hearth/1"
)

// place gives the line that tells where the device's description stands.
func place(c api.Config) string {
	return "LOCATION: http://" + inet.Text(c.LanAddr) + ":" + strconv.Itoa(api.ServerPort) + "/desc.xml"
}

// message gives a text of lines.
func message(lines ...string) []byte {
	return []byte(strings.Join(lines, lineEnd) + lineEnd + lineEnd)
}

// sought gives the name that a text searches for, an empty one if it is no search.
func sought(text []byte) string {
	if len(text) > longest {
		return ""
	}
	fields := fieldsOf(string(text))
	seconds, _ := head.Number(only(fields, "mx"), 10, mostWait)
	if only(fields, "man") != `"ssdp:discover"` || seconds == 0 {
		return ""
	}
	return only(fields, "st")
}

// fieldsOf gives the fields of a text that may be a search, none of another one.
func fieldsOf(text string) []api.Field {
	text, whole := strings.CutSuffix(text, lineEnd+lineEnd)
	lines := strings.Split(text, lineEnd)
	method, target, minor, _ := head.Start(lines[0])
	if !whole || method != "M-SEARCH" || target != "*" || minor != 1 {
		return nil
	}
	var out []api.Field
	for _, line := range lines[1:] {
		f, ok := head.Line(line)
		if !ok {
			return nil
		}
		out = append(out, f)
	}
	return out
}

// only gives the value of a name that is there just once, else an empty one: nothing is searched for by that.
func only(fields []api.Field, name string) string {
	values := head.Get(fields, name)
	if len(values) != 1 {
		return ""
	}
	return values[0]
}
