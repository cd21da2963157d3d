package http_test

import (
	"bufio"
	"bytes"
	"fmt"
	"io"
	"math"
	nethttp "net/http"
	"slices"
	"strings"
	"testing"

	"hearth/api"
	"hearth/http"
)

var reasons = map[int]string{
	200: "OK", 400: "Bad Request", 404: "Not Found", 405: "Method Not Allowed", 411: "Length Required", 412: "Precondition Failed", 413: "Content Too Large", 415: "Unsupported Media Type",
	431: "Request Header Fields Too Large", 500: "Internal Server Error", 501: "Not Implemented", 503: "Service Unavailable",
}

func TestP16_3Reason(t *testing.T) {
	for status := -1100; status < 1100; status++ {
		want, known := reasons[status]
		if !known {
			want = "Status"
		}
		if got := http.Reason(status); got != want {
			t.Errorf("Reason(%d): %q, not %q", status, got, want)
		}
	}
	for _, status := range []int{math.MinInt, math.MaxInt, 200 + 1<<32, 200 + 1<<16, -200} {
		if got := http.Reason(status); got != "Status" {
			t.Errorf("Reason(%d): %q", status, got)
		}
	}
}

func TestP16_3Response(t *testing.T) {
	for _, c := range []struct {
		status int
		list   []api.Field
		body   string
		keep   bool
		want   string
	}{
		{200, nil, "", true, "HTTP/1.1 200 OK\r\nCONTENT-LENGTH: 0\r\n\r\n"},
		{200, nil, "", false, "HTTP/1.1 200 OK\r\nCONTENT-LENGTH: 0\r\nCONNECTION: close\r\n\r\n"},
		{404, []api.Field{{Name: "SERVER", Value: "h"}}, "no", false, "HTTP/1.1 404 Not Found\r\nSERVER: h\r\nCONTENT-LENGTH: 2\r\nCONNECTION: close\r\n\r\nno"},
		{200, []api.Field{{Name: "EXT", Value: ""}, {Name: "b", Value: " c "}, {Name: "EXT", Value: "d"}}, "\r\n\x00\xff", true, "HTTP/1.1 200 OK\r\nEXT: \r\nb:  c \r\nEXT: d\r\nCONTENT-LENGTH: 4\r\n\r\n\r\n\x00\xff"},
		{200, []api.Field{{}}, "x", true, "HTTP/1.1 200 OK\r\n: \r\nCONTENT-LENGTH: 1\r\n\r\nx"},
		{200, []api.Field{{Name: "CONTENT-LENGTH", Value: "7"}, {Name: "CONNECTION", Value: "close"}}, "x", true, "HTTP/1.1 200 OK\r\nCONTENT-LENGTH: 7\r\nCONNECTION: close\r\nCONTENT-LENGTH: 1\r\n\r\nx"},
		{418, []api.Field{}, "", true, "HTTP/1.1 418 Status\r\nCONTENT-LENGTH: 0\r\n\r\n"},
		{100, nil, "", true, "HTTP/1.1 100 Status\r\nCONTENT-LENGTH: 0\r\n\r\n"},
		{999, nil, "", true, "HTTP/1.1 999 Status\r\nCONTENT-LENGTH: 0\r\n\r\n"},
	} {
		if got := string(http.Response(c.status, c.list, []byte(c.body), c.keep)); got != c.want {
			t.Errorf("Response(%d, %q, %q, %t): %q, not %q", c.status, c.list, c.body, c.keep, got, c.want)
		}
	}
}

func TestP16_3ResponseStatuses(t *testing.T) {
	for status := -1100; status < 1100; status++ {
		told := status
		if status < 100 || status > 999 {
			told = 500
		}
		want := fmt.Sprintf("HTTP/1.1 %03d %s\r\nCONTENT-LENGTH: 0\r\n\r\n", told, http.Reason(told))
		if got := string(http.Response(status, nil, nil, true)); got != want {
			t.Errorf("Response(%d): %q, not %q", status, got, want)
		}
	}
	for _, status := range []int{math.MinInt, math.MaxInt, 200 + 1<<32} {
		if got := string(http.Response(status, nil, nil, true)); got != "HTTP/1.1 500 Internal Server Error\r\nCONTENT-LENGTH: 0\r\n\r\n" {
			t.Errorf("Response(%d): %q", status, got)
		}
	}
}

func TestP16_3Ask(t *testing.T) {
	for _, c := range []struct {
		method, target string
		list           []api.Field
		body, want     string
	}{
		{"NOTIFY", "/e", nil, "", "NOTIFY /e HTTP/1.1\r\nCONTENT-LENGTH: 0\r\n\r\n"},
		{"NOTIFY", "/e?1", []api.Field{{Name: "HOST", Value: "192.168.1.7:80"}, {Name: "SEQ", Value: "0"}}, "<a/>", "NOTIFY /e?1 HTTP/1.1\r\nHOST: 192.168.1.7:80\r\nSEQ: 0\r\nCONTENT-LENGTH: 4\r\n\r\n<a/>"},
		{"", "", []api.Field{{}}, "\r\n", "  HTTP/1.1\r\n: \r\nCONTENT-LENGTH: 2\r\n\r\n\r\n"},
	} {
		if got := string(http.Ask(c.method, c.target, c.list, []byte(c.body))); got != c.want {
			t.Errorf("Ask(%q, %q, %q, %q): %q, not %q", c.method, c.target, c.list, c.body, got, c.want)
		}
	}
}

// Another reader of HTTP than the program's reads what it writes.
func TestP16_3ByAnotherReader(t *testing.T) {
	for _, size := range []int{0, 1, 9, 10, 8192, 70000} {
		body := bytes.Repeat([]byte("b\r\n\x00"), size)[:size]
		for status, words := range reasons {
			for _, keep := range []bool{true, false} {
				b := http.Response(status, []api.Field{{Name: "X-A", Value: "v"}}, body, keep)
				r, err := nethttp.ReadResponse(bufio.NewReader(bytes.NewReader(b)), nil)
				if err != nil {
					t.Fatal(err)
				}
				got, err := io.ReadAll(r.Body)
				if err != nil || !bytes.Equal(got, body) || r.Status != fmt.Sprint(status, " ", words) || r.Header.Get("X-A") != "v" || r.Close == keep {
					t.Errorf("%d, %d bytes: %v, %v", status, size, r, err)
				}
			}
		}
		b := http.Ask("POST", "/x", []api.Field{{Name: "HOST", Value: "h"}, {Name: "X-A", Value: "v"}}, body)
		r, err := nethttp.ReadRequest(bufio.NewReader(bytes.NewReader(b)))
		if err != nil {
			t.Fatal(err)
		}
		got, err := io.ReadAll(r.Body)
		if err != nil || !bytes.Equal(got, body) || r.Method != "POST" || r.URL.Path != "/x" || r.Host != "h" || r.Header.Get("X-A") != "v" {
			t.Errorf("%d bytes: %v, %v", size, r, err)
		}
	}
}

// And the program's own reader, and Status, do.
func TestP16_3ByItself(t *testing.T) {
	b := http.Ask("POST", "/x", []api.Field{{Name: "Host", Value: "h"}}, []byte("body"))
	if got := showAll(http.New().Feed(b)); !slices.Equal(got, []string{"POST /x 1 host=h; content-length=4; (body) keep"}) {
		t.Errorf("%q", got)
	}
	for status := 100; status < 1000; status++ {
		b := http.Response(status, nil, []byte("body"), true)
		if got, more := http.Status(b); got != status || more {
			t.Errorf("Status of %q: %d, %t", b, got, more)
		}
	}
}

func TestP16_4Status(t *testing.T) {
	for s, want := range map[string]int{
		"HTTP/1.1 200 OK\r\n": 200, "HTTP/1.0 200 OK\r\n": 200, "HTTP/1.1 200\r\n": 200, "HTTP/1.1 200 \r\n": 200, "HTTP/1.1 412\r\nx": 412, "HTTP/1.1 100 \r\r\n": 100, "HTTP/1.1 999 x\r\n\n": 999, "HTTP/1.1 200  x\x00\xff\r\n\r\nbody": 200,
		"HTTP/1.1 200 OK\r\nbare\n": 200, "HTTP/1.1 200 " + strings.Repeat("x", 241) + "\r\n": 200, "HTTP/1.1 200 OK\r\n" + strings.Repeat("x", 9000): 200,
		// Wrong ones.
		"HTTP/1.1 200 OK\n": 0, "HTTP/1.1 200\n": 0, "\r\n": 0, "\n": 0, "\r\nHTTP/1.1 200 OK\r\n": 0, "\nHTTP/1.1 200 OK\r\n": 0, "HTTP/1.1 200\r\r\n": 0, "HTTP/1.1 200 OK\r \n": 0,
		"HTTP/1.1 20\r\n": 0, "HTTP/1.1 20 \r\n": 0, "HTTP/1.1 2000\r\n": 0, "HTTP/1.1 2000 x\r\n": 0, "HTTP/1.1 200x\r\n": 0, "HTTP/1.1 200\tOK\r\n": 0, "HTTP/1.1 099\r\n": 0, "HTTP/1.1 000 x\r\n": 0, "HTTP/1.1 0200\r\n": 0, "HTTP/1.1 2x0\r\n": 0, "HTTP/1.1 +20\r\n": 0, "HTTP/1.1 -20\r\n": 0, "HTTP/1.1 \r\n": 0, "HTTP/1.1\r\n": 0, "HTTP/1.1  200\r\n": 0, "HTTP/1.1\t200\r\n": 0, "HTTP/1.1200\r\n": 0, "HTTP/1.1x200\r\n": 0,
		"HTTP/2.0 200\r\n": 0, "HTTP/1.2 200\r\n": 0, "HTTP/1. 200\r\n": 0, "HTTP/1 200\r\n": 0, "HTTP/1.10 200\r\n": 0, "HTTP/1.01 200\r\n": 0, "http/1.1 200\r\n": 0, " HTTP/1.1 200\r\n": 0, "HTTP/1.1 200" + strings.Repeat("0", 20) + "\r\n": 0, "200 OK\r\n": 0, "GET / HTTP/1.1\r\n": 0,
	} {
		if got, more := http.Status([]byte(s)); got != want || more {
			t.Errorf("Status(%.40q): %d, %t, not %d", s, got, more, want)
		}
	}
}

func TestP16_4StatusSizes(t *testing.T) {
	const first = "HTTP/1.1 200 "
	for size := range 600 {
		for _, s := range []string{strings.Repeat("x", size), (first + strings.Repeat("x", size))[:size], strings.Repeat("\r", size)} {
			if got, more := http.Status([]byte(s)); got != 0 || more != (size <= 256) {
				t.Errorf("Status of %d bytes without a LF, %.20q: %d, %t", size, s, got, more)
			}
		}
		if size < len(first)+2 {
			continue
		}
		want := 200
		if size > 256 {
			want = 0
		}
		line := first + strings.Repeat("x", size-len(first)-2) + "\r\n"
		for _, behind := range []string{"", "x", "\r\n", strings.Repeat("x", 300)} {
			if got, more := http.Status([]byte(line + behind)); got != want || more {
				t.Errorf("Status of a line of %d bytes: %d, %t", size, got, more)
			}
		}
	}
	if got, more := http.Status(nil); got != 0 || !more {
		t.Errorf("Status of nothing: %d, %t", got, more)
	}
}

func TestP16_5OfAnswers(t *testing.T) {
	list := []api.Field{{Name: "A", Value: "1"}, {Name: "B", Value: "2"}, {Name: "C", Value: "spare"}, {Name: "D", Value: "room"}}
	body := []byte("bodyspare room")
	tellAll := func() []string {
		return []string{string(http.Response(200, list[:2], body[:4], false)), string(http.Response(200, list[:2], body[:4], true)), string(http.Ask("NOTIFY", "/", list[:2], body[:4]))}
	}
	want := tellAll()
	for _, b := range [][]byte{http.Response(200, list[:2], body[:4], false), http.Response(200, list[:2], body[:4], true), http.Ask("NOTIFY", "/", list[:2], body[:4])} {
		spoil(b)
	}
	if string(body) != "bodyspare room" || !slices.Equal(list, []api.Field{{Name: "A", Value: "1"}, {Name: "B", Value: "2"}, {Name: "C", Value: "spare"}, {Name: "D", Value: "room"}}) {
		t.Errorf("what was handed in was changed: %q, %q", body, list)
	}
	if got := tellAll(); !slices.Equal(got, want) {
		t.Errorf("%q, not %q", got, want)
	}
	one := http.Response(200, list[:2], body[:4], false)
	clear(list)
	spoil(body)
	if string(one) != want[0] {
		t.Errorf("an answer has changed with what was handed in: %q", one)
	}
	line := []byte("HTTP/1.1 200 OK\r\nspare")
	http.Status(line[:17])
	if string(line) != "HTTP/1.1 200 OK\r\nspare" {
		t.Errorf("Status has changed %q", line)
	}
}
