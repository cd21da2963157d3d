package http

import (
	"bytes"
	"slices"
	"strconv"
	"strings"

	"hearth/api"
	"hearth/head"
	"hearth/octet"
)

// Response gives a response's bytes.
func Response(status int, list []api.Field, body []byte, keep bool) []byte {
	if status < 100 || status > 999 {
		status = 500
	}
	behind := lengthField(body)
	if !keep {
		behind = append(behind, api.Field{Name: "CONNECTION", Value: "close"})
	}
	return message("HTTP/1.1 "+strconv.Itoa(status)+" "+Reason(status), list, behind, body)
}

// Ask gives a request's bytes.
func Ask(method, target string, list []api.Field, body []byte) []byte {
	return message(method+" "+target+" HTTP/1.1", list, lengthField(body), body)
}

func lengthField(body []byte) []api.Field {
	return []api.Field{{Name: "CONTENT-LENGTH", Value: strconv.Itoa(len(body))}}
}

// message lays a first line, the fields of both lists, and a body one behind the other.
func message(first string, list, behind []api.Field, body []byte) []byte {
	var lines strings.Builder
	lines.WriteString(first + lineEnd)
	for _, f := range slices.Concat(list, behind) {
		lines.WriteString(f.Name + ": " + f.Value + lineEnd)
	}
	lines.WriteString(lineEnd)
	return octet.Join([]byte(lines.String()), body)
}

// Status gives a response's status.
func Status(b []byte) (status int, more bool) {
	end := bytes.IndexByte(b[:min(len(b), longestLine)], '\n')
	if end < 0 {
		return 0, len(b) <= longestLine
	}
	text, whole := strings.CutSuffix(string(b[:end]), "\r")
	if !whole {
		return 0, false
	}
	return statusOf(text), false
}

// statusOf gives the status that a response's first line tells, or 0.
func statusOf(text string) int {
	version, rest, _ := strings.Cut(text, " ")
	if version != "HTTP/1.0" && version != "HTTP/1.1" {
		return 0
	}
	digits, _, _ := strings.Cut(rest, " ")
	n, ok := head.Number(digits, 10, 999)
	if !ok || len(digits) != 3 || n < 100 {
		return 0
	}
	return n
}

// reason is a status's words.
type reason struct{ words string }

// Reason gives a status's words.
func Reason(status int) string {
	known := map[int]reason{
		200: {"OK"},
		400: {"Bad Request"},
		404: {"Not Found"},
		405: {"Method Not Allowed"},
		411: {"Length Required"},
		412: {"Precondition Failed"},
		413: {"Content Too Large"},
		415: {"Unsupported Media Type"},
		431: {"Request Header Fields Too Large"},
		500: {"Internal Server Error"},
		501: {"Not Implemented"},
		503: {"Service Unavailable"},
	}
	if r, ok := known[status]; ok {
		return r.words
	}
	return "Status"
}
