package xml

import (
	"strconv"
	"strings"
	"unicode/utf8"

	"hearth/head"
)

const (
	blanks      = " \t\r\n"
	longestName = 64
	longestHex  = 6        // digits of base 16 of a character
	lastRune    = 0x10ffff // of all characters
)

func begins(c byte) bool {
	return 'a' <= c && c <= 'z' || 'A' <= c && c <= 'Z' || c == '_'
}

func inName(c byte) bool {
	return begins(c) || '0' <= c && c <= '9' || c == '-' || c == '.'
}

// clean tells whether all bytes of a text may stand in a document.
func clean(s string) bool {
	for i := range len(s) {
		if s[i] < ' ' && strings.IndexByte(blanks, s[i]) < 0 {
			return false
		}
	}
	return true
}

// escape gives a text as it stands in a document; the bytes of numbered stand in it by their numbers.
func escape(s, numbered string) string {
	var b []byte
	for i := range len(s) {
		switch c := s[i]; {
		case c == '&':
			b = append(b, "&amp;"...)
		case c == '<':
			b = append(b, "&lt;"...)
		case c == '>':
			b = append(b, "&gt;"...)
		case c == '"':
			b = append(b, "&quot;"...)
		case strings.IndexByte(numbered, c) >= 0:
			b = append(b, "&#"+strconv.Itoa(int(c))+";"...)
		default:
			b = append(b, c)
		}
	}
	return string(b)
}

// plain gives a text with the characters in place of what stands for them.
func plain(s string) (string, bool) {
	var b []byte
	for {
		ahead, behind, found := strings.Cut(s, "&")
		b = append(b, ahead...)
		if !found {
			return string(b), true
		}
		name, rest, ended := strings.Cut(behind, ";")
		c, known := character(name)
		if !ended || !known {
			return "", false
		}
		b = utf8.AppendRune(b, c)
		s = rest
	}
}

// character gives the character that a name between & and ; stands for.
func character(name string) (rune, bool) {
	switch name {
	case "lt":
		return '<', true
	case "gt":
		return '>', true
	case "amp":
		return '&', true
	case "quot":
		return '"', true
	case "apos":
		return '\'', true
	}
	number, ok := strings.CutPrefix(name, "#")
	if !ok {
		return 0, false
	}
	n, ok := numberOf(number)
	if !ok || !allowed(n) {
		return 0, false
	}
	return rune(n), true
}

func numberOf(s string) (int, bool) {
	digits, by16 := strings.CutPrefix(s, "x")
	switch {
	case !by16:
		return head.Number(digits, 10, lastRune)
	case len(digits) > longestHex:
		return 0, false
	}
	return head.Number(digits, 16, lastRune)
}

// allowed tells whether a number is that of a character that may be told by it.
func allowed(n int) bool {
	switch {
	case n < ' ':
		return n == '\t' || n == '\n' || n == '\r'
	case n > 0xffff:
		return n <= lastRune
	}
	return n <= 0xd7ff || 0xe000 <= n && n <= 0xfffd
}
