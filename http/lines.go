package http

import (
	"math"
	"slices"
	"strings"

	"hearth/api"
	"hearth/head"
)

const (
	lineEnd    = "\r\n"
	mostLength = 9999999 // of a content-length that is a number
)

// textsOf gives the texts of lines, and whether none of these is bare.
func textsOf(lines string) ([]string, bool) {
	texts, whole := strings.Split(strings.TrimSuffix(lines, "\n"), "\n"), true
	for i, line := range texts {
		text, ok := strings.CutSuffix(line, "\r")
		texts[i], whole = text, whole && ok
	}
	return texts, whole
}

// fieldsOf gives the fields of lines by their texts, and whether each one is right.
func fieldsOf(texts []string) ([]api.Field, bool) {
	var out []api.Field
	for _, text := range texts {
		f, ok := head.Line(text)
		if !ok {
			return nil, false
		}
		out = append(out, f)
	}
	return out, true
}

// readHead gives the request of a head, or with which status there is none.
func readHead(lines string) (api.Request, int) {
	texts, whole := textsOf(lines)
	if !whole {
		return api.Request{}, 400
	}
	r, status := readStart(texts[0])
	if status != 0 {
		return api.Request{}, status
	}
	fields, ok := fieldsOf(texts[1 : len(texts)-1])
	switch {
	case !ok:
		return api.Request{}, 400
	case len(fields) > api.MaxFields:
		return api.Request{}, 431
	}
	r.Fields = fields
	if hosts := len(head.Get(fields, "host")); hosts > 1 || hosts == 0 && r.Minor == 1 {
		return api.Request{}, 400
	}
	r.Keep = keeps(r)
	return r, 0
}

func readStart(text string) (api.Request, int) {
	method, target, minor, ok := head.Start(text)
	if !ok {
		return api.Request{}, 400
	}
	switch method {
	case "GET", "HEAD", "POST", "SUBSCRIBE", "UNSUBSCRIBE":
		return api.Request{Method: method, Target: target, Minor: minor}, 0
	}
	return api.Request{}, 501
}

// keeps tells whether the connection stays behind a request.
func keeps(r api.Request) bool {
	values := head.Get(r.Fields, "connection")
	says := func(word string) bool {
		return slices.ContainsFunc(values, func(v string) bool { return head.Same(v, word) })
	}
	return !says("close") && (r.Minor == 1 || says("keep-alive"))
}

// frame tells how a request's body comes: in pieces, or as so many bytes; or with which status none can be read.
func frame(r api.Request) (pieces bool, size, status int) {
	codings, lengths := head.Get(r.Fields, "transfer-encoding"), head.Get(r.Fields, "content-length")
	switch {
	case len(codings) > 0:
		return true, 0, codingStatus(r, codings, lengths)
	case len(lengths) > 0:
		size, status = lengthOf(lengths)
		return false, size, status
	case r.Method == "POST":
		return false, 0, 411
	}
	return false, 0, 0
}

func codingStatus(r api.Request, codings, lengths []string) int {
	switch {
	case len(codings) > 1 || len(lengths) > 0 || r.Minor == 0:
		return 400
	case !head.Same(codings[0], "chunked"):
		return 501
	}
	return 0
}

func lengthOf(lengths []string) (size, status int) {
	size, ok := head.Number(lengths[0], 10, mostLength)
	switch {
	case len(lengths) > 1 || !ok:
		return 0, 400
	case size > api.MaxHTTP:
		return 0, 413
	}
	return size, 0
}

// pieceSize gives the number of bytes that a line tells of a piece.
func pieceSize(line string) (int, bool) {
	text, whole := strings.CutSuffix(line, lineEnd)
	if !whole {
		return 0, false
	}
	number, _, _ := strings.Cut(text, ";")
	return head.Number(number, 16, math.MaxInt)
}

// tailStatus tells with which status the lines behind the number 0 are wrong, or 0.
func tailStatus(lines string) int {
	texts, whole := textsOf(lines)
	if _, ok := fieldsOf(texts[:len(texts)-1]); !whole || !ok {
		return 400
	}
	return 0
}
