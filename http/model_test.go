package http_test

import (
	"fmt"
	"math/rand"
	"regexp"
	"slices"
	"strings"
	"testing"

	"hearth/api"
	"hearth/head"
	"hearth/http"
)

// model reads all that has come of a stream by the chapter's words: what it tells, and why.
type model struct {
	list       []api.Parsed
	why        []string
	dead, idle bool
}

var (
	headLines = regexp.MustCompile(`^[^\n]*\n(?:[^\n]*\n)*?\r?\n`)
	tailLines = regexp.MustCompile(`^(?:[^\n]*\n)*?\r?\n`)
	bareLine  = regexp.MustCompile(`(?:^|[^\r])\n`)
)

// unread is what of a stream can't be told yet.
const unread = -1

func modelOf(s string) model {
	m := model{}
	for !m.dead {
		x, why, size := modelOne(s)
		if size == unread {
			m.idle = s == "" || s == "\r\n"
			return m
		}
		m.list, m.why, s = append(m.list, x), append(m.why, why), s[size:]
		m.dead = x.Status != 0 || !x.Request.Keep
	}
	m.idle = true
	return m
}

// modelOne gives what is told first, why, and of how many bytes.
func modelOne(s string) (api.Parsed, string, int) {
	rest := strings.TrimPrefix(s, "\r\n")
	refuse := func(status int, why string) (api.Parsed, string, int) {
		return api.Parsed{Status: status}, fmt.Sprint(status, " ", why), 0
	}
	end := headLines.FindStringIndex(rest)
	switch {
	case (end == nil || end[1] > 4096) && len(rest) >= 4096:
		return refuse(431, "head")
	case end == nil:
		return api.Parsed{}, "", unread
	}
	r, status, why := modelHead(rest[:end[1]])
	if status != 0 {
		return refuse(status, why)
	}
	rest = rest[end[1]:]
	if lengths := head.Get(r.Fields, "content-length"); len(lengths) == 1 {
		var n int
		fmt.Sscanf(lengths[0], "%d", &n)
		if len(rest) < n {
			return api.Parsed{}, "", unread
		}
		r.Body, rest = []byte(rest[:n]), rest[n:]
		return api.Parsed{Request: r}, "counted", len(s) - len(rest)
	}
	if len(head.Get(r.Fields, "transfer-encoding")) == 0 {
		return api.Parsed{Request: r}, "bare", len(s) - len(rest)
	}
	body, size, status, why := modelPieces(rest)
	switch {
	case size == unread:
		return api.Parsed{}, "", unread
	case status != 0:
		return refuse(status, why)
	}
	r.Body = []byte(body)
	return api.Parsed{Request: r}, "pieces", len(s) - len(rest) + size
}

// modelHead gives a head's request, or its status, by the chapter's list.
func modelHead(lines string) (api.Request, int, string) {
	texts := strings.Split(strings.ReplaceAll(lines, "\r\n", "\n"), "\n")
	texts = texts[:len(texts)-2]
	method, target, minor, ok := head.Start(texts[0])
	r := api.Request{Method: method, Target: target, Minor: minor}
	fine := true
	for _, text := range texts[1:] {
		f, ok := head.Line(text)
		fine = fine && ok
		r.Fields = append(r.Fields, f)
	}
	count := func(name string) int { return len(head.Get(r.Fields, name)) }
	first := func(name string) string { return append(head.Get(r.Fields, name), "")[0] }
	n, number := head.Number(first("content-length"), 10, 9999999)
	for _, rule := range []struct {
		holds  bool
		status int
		why    string
	}{
		{bareLine.MatchString(lines), 400, "bare"},
		{!ok, 400, "start"},
		{!slices.Contains(strings.Fields("GET HEAD POST SUBSCRIBE UNSUBSCRIBE"), method), 501, "method"},
		{!fine, 400, "line"},
		{len(texts) > 41, 431, "fields"},
		{count("host") > 1 || count("host") == 0 && minor == 1, 400, "host"},
		{count("transfer-encoding") > 1, 400, "codings"},
		{count("transfer-encoding") > 0 && count("content-length") > 0, 400, "both"},
		{count("transfer-encoding") > 0 && minor == 0, 400, "old"},
		{count("transfer-encoding") > 0 && !head.Same(first("transfer-encoding"), "chunked"), 501, "coding"},
		{count("content-length") > 1, 400, "lengths"},
		{count("content-length") > 0 && !number, 400, "length"},
		{n > 8192, 413, "length"},
		{method == "POST" && count("content-length") == 0 && count("transfer-encoding") == 0, 411, "none"},
	} {
		if rule.holds {
			return api.Request{}, rule.status, rule.why
		}
	}
	r.Keep = minor == 1
	for _, v := range head.Get(r.Fields, "connection") {
		r.Keep = r.Keep || head.Same(v, "keep-alive")
	}
	for _, v := range head.Get(r.Fields, "connection") {
		r.Keep = r.Keep && !head.Same(v, "close")
	}
	return r, 0, ""
}

// modelPieces gives the body of pieces, and how many bytes they take; or a status.
func modelPieces(s string) (body string, size, status int, why string) {
	rest := s
	for {
		line, behind, ended := strings.Cut(rest, "\n")
		if (!ended || len(line) >= 256) && len(rest) >= 256 {
			return "", 0, 400, "number too long"
		}
		if !ended {
			return "", unread, 0, ""
		}
		text, _, _ := strings.Cut(strings.TrimSuffix(line, "\r"), ";")
		n, ok := head.Number(text, 16, 1<<28)
		switch {
		case !strings.HasSuffix(line, "\r"):
			return "", 0, 400, "number bare"
		case !ok:
			return "", 0, 400, "number"
		case len(body)+n > 8192:
			return "", 0, 413, "pieces"
		}
		rest = behind
		if n == 0 {
			break
		}
		if len(rest) < n {
			return "", unread, 0, ""
		}
		body, rest = body+rest[:n], rest[n:]
		switch {
		case strings.HasPrefix("\r\n", rest) && len(rest) < 2:
			return "", unread, 0, ""
		case !strings.HasPrefix(rest, "\r\n"):
			return "", 0, 400, "edge"
		}
		rest = rest[2:]
	}
	end := tailLines.FindStringIndex(rest)
	switch {
	case (end == nil || end[1] > 1024) && len(rest) >= 1024:
		return "", 0, 431, "tail"
	case end == nil:
		return "", unread, 0, ""
	}
	tail := rest[:end[1]]
	if bareLine.MatchString(tail) {
		return "", 0, 400, "tail bare"
	}
	for _, text := range strings.Split(strings.TrimSuffix(tail, "\r\n"), "\r\n") {
		if _, ok := head.Line(text); !ok && tail != "\r\n" && text != "" {
			return "", 0, 400, "tail line"
		}
	}
	return body, len(s) - len(rest) + len(tail), 0, ""
}

// oneOf gives one of several texts, the first ones oftener.
func oneOf(r *rand.Rand, texts ...string) string {
	if r.Intn(3) > 0 {
		return texts[0]
	}
	return texts[r.Intn(len(texts))]
}

// stream gives a stream of requests, some of which are near to being right.
func stream(r *rand.Rand) string {
	s := ""
	for range 1 + r.Intn(4) {
		s += oneOf(r, "", "\r\n", "\r\n", "\r\n\r\n", "\n", "\r", " ") + request(r)
	}
	if r.Intn(8) == 0 && s != "" {
		i := r.Intn(len(s))
		s = s[:i] + oneOf(r, "\n", "\r", "\x00", ":", "0", "") + s[i+r.Intn(2):]
	}
	return s
}

func request(r *rand.Rand) string {
	end := func() string {
		if r.Intn(60) == 0 {
			return "\n"
		}
		return "\r\n"
	}
	s := oneOf(r, "GET", "POST", "HEAD", "SUBSCRIBE", "UNSUBSCRIBE", "POST", "POST", "PUT", "get", "G@T") + " " + oneOf(r, "/", "/a?b", "*", "", "/a b") + " " + oneOf(r, "HTTP/1.1", "HTTP/1.1", "HTTP/1.0", "HTTP/1.0", "HTTP/1.2") + end()
	if r.Intn(15) > 0 {
		s += "Host: a" + end()
	}
	for range r.Intn(4) {
		s += oneOf(r, "A: b", "Connection: keep-alive", "connection: KEEP-alive", "Connection: close", "Connection: x", "B:", "bad", "Host: b", "X: "+strings.Repeat("x", r.Intn(5000))) + end()
	}
	if r.Intn(40) == 0 {
		s += strings.Repeat("N: 1\r\n", 37+r.Intn(6))
	}
	switch r.Intn(3) {
	case 0:
		n := r.Intn(20)
		body := strings.Repeat("b", n)
		s += "Content-Length: " + oneOf(r, fmt.Sprint(n), fmt.Sprint(n), fmt.Sprint(n), "8193", "x", "", "10000000") + end()
		if r.Intn(30) == 0 {
			s += oneOf(r, "Content-Length: 1", "Transfer-Encoding: chunked") + end()
		}
		return s + end() + body
	case 1:
		s += "Transfer-Encoding: " + oneOf(r, "chunked", "Chunked", "chunked", "gzip", "") + end()
		if r.Intn(30) == 0 {
			s += "Transfer-Encoding: chunked" + end()
		}
		return s + end() + pieces(r)
	}
	return s + end()
}

func pieces(r *rand.Rand) string {
	s := ""
	for range r.Intn(4) {
		n := 1 + r.Intn(1<<uint(r.Intn(13)))
		s += oneOf(r, fmt.Sprintf("%x", n), fmt.Sprintf("%X", n), fmt.Sprintf("%07x", n), fmt.Sprintf("%x;x", n), fmt.Sprintf("%x;%s", n, strings.Repeat("x", r.Intn(300))), fmt.Sprintf("%x ", n), "2001", "x", "")
		s += oneOf(r, "\r\n", "\r\n", "\r\n", "\r\n", "\n") + strings.Repeat("p", n) + oneOf(r, "\r\n", "\r\n", "\r\n", "\r\n", "\n", "\rx", "!")
	}
	s += oneOf(r, "0\r\n", "00\r\n", "0;x\r\n", "0;x\r\n", "0\n")
	for range r.Intn(3) {
		s += oneOf(r, "A: b\r\n", "B:\r\n", "C: d\r\n", "A: b\n", "bad\r\n", "X: "+strings.Repeat("x", r.Intn(1100))+"\r\n")
	}
	return s + oneOf(r, "\r\n", "\r\n", "\r\n", "\n")
}

// In whatever pieces a stream comes, the Parser has told just what the model tells of as much of it.
func TestP16_1P16_2ByTheModel(t *testing.T) {
	seen := map[string]int{}
	for seed := range int64(12000) {
		r := rand.New(rand.NewSource(seed))
		s := stream(r)
		p, from, told := http.New(), 0, []string(nil)
		for from < len(s) {
			to := min(len(s), from+1+r.Intn(1<<uint(2+r.Intn(11))))
			told = append(told, showAll(p.Feed([]byte(s[from:to])))...)
			m := modelOf(s[:to])
			if want := showAll(m.list); !slices.Equal(told, want) || p.Dead() != m.dead || p.Idle() != m.idle {
				t.Fatalf("seed %d: of %q was told %.80q, dead %t, idle %t, not %.80q %q, %t, %t", seed, s[:to], told, p.Dead(), p.Idle(), want, m.why, m.dead, m.idle)
			}
			from = to
		}
		for _, why := range modelOf(s).why {
			seen[why]++
		}
	}
	for _, why := range strings.Split("bare,counted,pieces,431 head,400 bare,400 start,501 method,400 line,431 fields,400 host,400 codings,400 both,400 old,501 coding,400 lengths,400 length,413 length,411 none,400 number too long,400 number bare,400 number,413 pieces,400 edge,431 tail,400 tail bare,400 tail line", ",") {
		if seen[why] < 3 {
			t.Errorf("%q was met %d times", why, seen[why])
		}
	}
}

// Each byte counts: what is told with a byte isn't told ahead of it.
func TestP16_1ByTheModelByteByByte(t *testing.T) {
	for seed := range int64(150) {
		s := stream(rand.New(rand.NewSource(seed)))
		p, told := http.New(), []string(nil)
		for i := range min(len(s), 1500) {
			told = append(told, showAll(p.Feed([]byte{s[i]}))...)
			m := modelOf(s[:i+1])
			if want := showAll(m.list); !slices.Equal(told, want) || p.Dead() != m.dead || p.Idle() != m.idle {
				t.Fatalf("seed %d: of %q was told %.80q, dead %t, idle %t, not %.80q %q, %t, %t", seed, s[:i+1], told, p.Dead(), p.Idle(), want, m.why, m.dead, m.idle)
			}
		}
	}
}
