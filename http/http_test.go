package http_test

import (
	"fmt"
	"math/rand"
	"slices"
	"strings"
	"testing"

	"hearth/api"
	"hearth/http"
)

// The signatures that the chapter lists.
var (
	_ func() *http.Parser                              = http.New
	_ func(*http.Parser, []byte) []api.Parsed          = (*http.Parser).Feed
	_ func(*http.Parser) bool                          = (*http.Parser).Dead
	_ func(*http.Parser) bool                          = (*http.Parser).Idle
	_ func(int, []api.Field, []byte, bool) []byte      = http.Response
	_ func(string, string, []api.Field, []byte) []byte = http.Ask
	_ func([]byte) (int, bool)                         = http.Status
	_ func(int) string                                 = http.Reason
)

// show gives what is told as a text: a status, or a request.
func show(x api.Parsed) string {
	r := x.Request
	if x.Status != 0 && r.Method+r.Target == "" && r.Minor == 0 && len(r.Fields) == 0 && len(r.Body) == 0 && !r.Keep {
		return fmt.Sprint(x.Status)
	}
	s := fmt.Sprintf("%s %s %d", r.Method, r.Target, r.Minor)
	for _, f := range r.Fields {
		s += fmt.Sprintf(" %s=%s;", f.Name, f.Value)
	}
	if len(r.Body) > 0 {
		s += fmt.Sprintf(" (%s)", r.Body)
	}
	if r.Keep {
		s += " keep"
	}
	if x.Status != 0 {
		s += fmt.Sprint(" and ", x.Status)
	}
	return s
}

func showAll(list []api.Parsed) []string {
	var out []string
	for _, x := range list {
		out = append(out, show(x))
	}
	return out
}

// byteByByte feeds a stream byte by byte; each thing that is told has the number of bytes that had come in front of it.
func byteByByte(s string) (*http.Parser, []string) {
	p := http.New()
	var out []string
	for i := range len(s) {
		for _, x := range p.Feed([]byte{s[i]}) {
			out = append(out, fmt.Sprint(i+1, ": ", show(x)))
		}
	}
	return p, out
}

// inPieces feeds a stream in pieces of so many bytes.
func inPieces(s string, size int) (*http.Parser, []string) {
	p := http.New()
	var out []string
	for part := range slices.Chunk([]byte(s), size) {
		out = append(out, showAll(p.Feed(part))...)
	}
	return p, out
}

// tells wants a stream to tell just these, each as soon as its bytes have come, and the Parser to be dead or idle behind it.
func tells(t *testing.T, s string, dead, idle bool, want ...string) {
	t.Helper()
	p, got := byteByByte(s)
	if !slices.Equal(got, want) || p.Dead() != dead || p.Idle() != idle {
		t.Errorf("%.80q byte by byte: %.80q, dead %t, idle %t, not %.80q, %t, %t", s, got, p.Dead(), p.Idle(), want, dead, idle)
	}
	var bare []string
	for _, w := range want {
		_, b, _ := strings.Cut(w, ": ")
		bare = append(bare, b)
	}
	for _, size := range []int{2, 3, 7, 100, 4096, 1 << 20} {
		p, got := inPieces(s, size)
		if !slices.Equal(got, bare) || p.Dead() != dead || p.Idle() != idle {
			t.Errorf("%.80q in pieces of %d: %.80q, dead %t, idle %t, not %.80q, %t, %t", s, size, got, p.Dead(), p.Idle(), bare, dead, idle)
		}
	}
}

// reads wants a request to be told with the stream's last byte, and the connection to stay behind it.
func reads(t *testing.T, s, want string) {
	t.Helper()
	tells(t, s, false, true, fmt.Sprint(len(s), ": ", want))
}

// readsLast wants a request to be told with the stream's last byte, and nothing behind it.
func readsLast(t *testing.T, s, want string) {
	t.Helper()
	want = fmt.Sprint(len(s), ": ", want)
	tells(t, s, true, true, want)
	tells(t, s+get, true, true, want)
}

// refused wants a status to be told with the stream's last byte, and nothing behind it.
func refused(t *testing.T, s string, status int) {
	t.Helper()
	want := fmt.Sprint(len(s), ": ", status)
	tells(t, s, true, true, want)
	tells(t, s+get, true, true, want)
}

// lines gives lines that end as they should, and the one that ends a head.
func lines(texts ...string) string {
	return strings.Join(texts, "\r\n") + "\r\n\r\n"
}

const get = "GET /g HTTP/1.1\r\nHost: a\r\n\r\n"

// filled gives a head of just so many bytes.
func filled(size int) string {
	const begins, ends = "GET /g HTTP/1.1\r\nHost: a\r\nX: ", "\r\n\r\n"
	return begins + strings.Repeat("x", size-len(begins)-len(ends)) + ends
}

func TestP16_1Requests(t *testing.T) {
	reads(t, get, "GET /g 1 host=a; keep")
	reads(t, lines("POST /c HTTP/1.1", "Host: a", "Content-Length: 2")+"hi", "POST /c 1 host=a; content-length=2; (hi) keep")
	reads(t, lines("SUBSCRIBE /e HTTP/1.1", "HOST: 192.168.1.1:5000", "NT:upnp:event", "Callback:  <http://192.168.1.7/> \t"), "SUBSCRIBE /e 1 host=192.168.1.1:5000; nt=upnp:event; callback=<http://192.168.1.7/>; keep")
	reads(t, lines("HEAD /h HTTP/1.1", "Host:", "A: 1", "a: 2", "B: \xff"), "HEAD /h 1 host=; a=1; a=2; b=\xff; keep")
	reads(t, lines("UNSUBSCRIBE * HTTP/1.1", "Host: a"), "UNSUBSCRIBE * 1 host=a; keep")
	reads(t, lines("GET /g HTTP/1.0", "Connection: Keep-Alive"), "GET /g 0 connection=Keep-Alive; keep")
	readsLast(t, lines("GET /g HTTP/1.0"), "GET /g 0")
	tells(t, "", false, true)
}

func TestP16_1Bodies(t *testing.T) {
	with := func(method string, size int) string {
		return lines(method+" /c HTTP/1.1", "Host: a", fmt.Sprint("Content-Length: ", size))
	}
	for _, method := range []string{"GET", "HEAD", "POST", "SUBSCRIBE", "UNSUBSCRIBE"} {
		reads(t, with(method, 0), method+" /c 1 host=a; content-length=0; keep")
		reads(t, with(method, 1)+"\n", method+" /c 1 host=a; content-length=1; (\n) keep")
	}
	for _, size := range []int{2, 1000, 4096, 4097, 8191, 8192} {
		body := strings.Repeat("\r\n\x00\xff", size)[:size]
		reads(t, with("POST", size)+body, fmt.Sprintf("POST /c 1 host=a; content-length=%d; (%s) keep", size, body))
	}
	reads(t, lines("POST /c HTTP/1.1", "Host: a", "Content-Length:\t0000003 ")+get[:3], "POST /c 1 host=a; content-length=0000003; (GET) keep")
	tells(t, with("POST", 3)+"ab", false, false)
	tells(t, with("POST", 3)[:40], false, false)
}

func TestP16_1OneBehindTheOther(t *testing.T) {
	post := lines("POST /c HTTP/1.1", "Host: a", "Content-Length: 2") + "hi"
	pieces := lines("POST /d HTTP/1.1", "Host: a", "Transfer-Encoding: chunked") + "1\r\n!\r\n0\r\n\r\n"
	at := func(n int, s string) string { return fmt.Sprint(n, ": ", s) }
	tells(t, get+post+pieces+get+"\r\n"+post+"P", false, false,
		at(len(get), "GET /g 1 host=a; keep"),
		at(len(get+post), "POST /c 1 host=a; content-length=2; (hi) keep"),
		at(len(get+post+pieces), "POST /d 1 host=a; transfer-encoding=chunked; (!) keep"),
		at(len(get+post+pieces+get), "GET /g 1 host=a; keep"),
		at(len(get+post+pieces+get+"\r\n"+post), "POST /c 1 host=a; content-length=2; (hi) keep"))
}

func TestP16_1InAnyTwoPieces(t *testing.T) {
	s := "\r\n" + get + lines("POST /d HTTP/1.1", "Host: a", "Transfer-Encoding: chunked") + "1;x\r\n!\r\n0\r\nA: b\r\n\r\n" + lines("POST /c HTTP/1.1", "Host: a", "Content-Length: 2") + "hi\r\n" + get + "\n"
	whole := showAll(http.New().Feed([]byte(s)))
	if len(whole) != 4 {
		t.Fatalf("in one piece: %q", whole)
	}
	for i := range len(s) + 1 {
		p := http.New()
		got := showAll(p.Feed([]byte(s[:i])))
		got = append(got, showAll(p.Feed(nil))...)
		got = append(got, showAll(p.Feed([]byte(s[i:])))...)
		if !slices.Equal(got, whole) {
			t.Errorf("cut at %d: %q", i, got)
		}
	}
}

func TestP16_1PassedOver(t *testing.T) {
	reads(t, "\r\n"+get, "GET /g 1 host=a; keep")
	tells(t, "\r\n", false, true)
	tells(t, "\r\n"+get+"\r\n"+get+"\r\n", false, true, "30: GET /g 1 host=a; keep", "60: GET /g 1 host=a; keep")
	// Only once for each request, not a bare one, and only one that is empty.
	tells(t, "\r\n\r\n", false, false)
	refused(t, "\r\n\r\n\r\n", 400)
	refused(t, "\r\n\r\n"+get, 400)
	refused(t, "\n"+get, 400)
	refused(t, "\r\n\n"+get, 400)
	refused(t, "\r\r\n"+get, 400)
	refused(t, " \r\n"+get, 400)
	refused(t, "\r\n\r\n\n", 400)
	tells(t, get+"\r\n\r\n\r\n", true, true, "28: GET /g 1 host=a; keep", "34: 400")
	tells(t, "\r\n"+get+"\r\n\r\n\r\n", true, true, "30: GET /g 1 host=a; keep", "36: 400")
}

// headCase is a head's lines, and the status that it has.
type headCase struct {
	texts  []string
	status int
}

func checkHeads(t *testing.T, cases ...headCase) {
	t.Helper()
	for _, c := range cases {
		refused(t, lines(c.texts...), c.status)
	}
}

func TestP16_1BareLines(t *testing.T) {
	for _, s := range []string{
		"GET /g HTTP/1.1\nHost: a\r\n\r\n", "GET /g HTTP/1.1\r\nHost: a\n\r\n", "GET /g HTTP/1.1\r\nHost: a\r\n\n", "GET /g HTTP/1.1\nHost: a\n\n", "GET /g HTTP/1.1\r\nHost: a\r\nB: c\n\r\n", "GET /g HTTP/1.1\r\n\n", "\n\n", "\n\r\n", "\r\n\n\n",
		// Ahead of all the other statuses.
		"PUT /g HTTP/1.1\nHost: a\r\n\r\n", "POST /c HTTP/1.1\r\nHost: a\n\r\n", "GET /g HTTP/1.1\r\nHost: a\r\n" + strings.Repeat("A: 1\r\n", 40) + "\n", "POST /c HTTP/1.1\r\nHost: a\r\nTransfer-Encoding: x\r\n\n", "POST /c HTTP/1.1\r\nHost: a\r\nContent-Length: 9000\r\n\n",
	} {
		refused(t, s, 400)
	}
	// A line has one CR ahead of its LF at most, and one without a LF isn't a line.
	refused(t, "GET /g HTTP/1.1\r\r\nHost: a\r\n\r\n", 400)
	refused(t, "GET /g HTTP/1.1\r\nHost: a\r\r\n\r\n", 400)
	refused(t, "GET /g HTTP/1.1\r\nHost: a\r\n\r\r\n\r\n", 400)
	tells(t, "GET /g HTTP/1.1\rHost: a\r\r", false, false)
}

func TestP16_1FirstLines(t *testing.T) {
	for _, text := range []string{"GET", "GET /g", "GET /g HTTP/1.2", "GET /g HTTP/2.0", "GET  HTTP/1.1", "GET /g HTTP/1.1 ", " GET /g HTTP/1.1", "G@T /g HTTP/1.1", "GET /\xff HTTP/1.1", "Host: a", "PUT /g HTTP/1.2", "GET /" + strings.Repeat("x", 512) + " HTTP/1.1"} {
		checkHeads(t, headCase{[]string{text, "Host: a"}, 400}, headCase{[]string{text}, 400})
	}
	for _, method := range []string{"PUT", "get", "Get", "OPTIONS", "M-SEARCH", "NOTIFY", "GETS", "GE", "DELETE", "POSTS", "subscribe", "!"} {
		checkHeads(t,
			headCase{[]string{method + " /g HTTP/1.1", "Host: a"}, 501},
			headCase{[]string{method + " /g HTTP/1.0"}, 501},
			headCase{[]string{method + " /g HTTP/1.1", "bad line"}, 501},
			headCase{[]string{method + " /g HTTP/1.1"}, 501},
			headCase{[]string{method + " /g HTTP/1.1", "Host: a", "Content-Length: 9000"}, 501})
	}
}

func TestP16_1OtherLines(t *testing.T) {
	for _, text := range []string{"bad line", "Host", ": a", " Host: a", "Host : a", "Host:\x00", "X: \x7f", "X(: a", strings.Repeat("x", 65) + ": a", " folded", "\tfolded", "\r"} {
		checkHeads(t,
			headCase{[]string{"GET /g HTTP/1.1", text, "Host: a"}, 400},
			headCase{[]string{"GET /g HTTP/1.1", "Host: a", text}, 400},
			headCase{[]string{"GET /g HTTP/1.1", "Host: a", "Transfer-Encoding: gzip", text}, 400},
			headCase{[]string{"POST /g HTTP/1.1", "Host: a", text}, 400})
	}
}

func TestP16_1HowManyFields(t *testing.T) {
	many := func(n int) []string {
		return append([]string{"GET /g HTTP/1.1", "Host: a"}, slices.Repeat([]string{"B:"}, n-1)...)
	}
	for _, n := range []int{1, 2, 39, 40} {
		reads(t, lines(many(n)...), "GET /g 1 host=a;"+strings.Repeat(" b=;", n-1)+" keep")
	}
	for _, n := range []int{41, 42, 80, 81, 500} {
		checkHeads(t,
			headCase{many(n), 431},
			headCase{append(many(n), "bad"), 400},
			headCase{append(many(n), "Host: a"), 431},
			headCase{append(many(n), "Content-Length: 9000"), 431})
	}
	checkHeads(t, headCase{append(many(40)[:1], slices.Repeat([]string{"B:"}, 41)...), 431})
}

func TestP16_1Hosts(t *testing.T) {
	checkHeads(t,
		headCase{[]string{"GET /g HTTP/1.1"}, 400},
		headCase{[]string{"GET /g HTTP/1.1", "X-Host: a"}, 400},
		headCase{[]string{"GET /g HTTP/1.1", "Host: a", "Host: a"}, 400},
		headCase{[]string{"GET /g HTTP/1.1", "Host: a", "B: c", "HOST: b"}, 400},
		headCase{[]string{"GET /g HTTP/1.0", "Host: a", "host: a"}, 400},
		headCase{[]string{"GET /g HTTP/1.1", "Host: a", "Host: a", "Host: a"}, 400},
		headCase{[]string{"POST /c HTTP/1.1"}, 400},
		headCase{[]string{"POST /c HTTP/1.1", "Transfer-Encoding: gzip"}, 400},
		headCase{[]string{"POST /c HTTP/1.1", "Content-Length: 9000"}, 400})
	readsLast(t, lines("GET /g HTTP/1.0", "Host: a"), "GET /g 0 host=a;")
	reads(t, lines("GET /g HTTP/1.1", "hOST:"), "GET /g 1 host=; keep")
}

func TestP16_1TransferEncoding(t *testing.T) {
	with := func(version string, more ...string) []string {
		return append([]string{"POST /c " + version, "Host: a"}, more...)
	}
	checkHeads(t,
		headCase{with("HTTP/1.1", "Transfer-Encoding: chunked", "Transfer-Encoding: chunked"), 400},
		headCase{with("HTTP/1.1", "Transfer-Encoding: gzip", "Transfer-Encoding: chunked"), 400},
		headCase{with("HTTP/1.1", "Transfer-Encoding: chunked", "Content-Length: 1"), 400},
		headCase{with("HTTP/1.1", "Content-Length: x", "Transfer-Encoding: chunked"), 400},
		headCase{with("HTTP/1.1", "Content-Length: 9000", "Transfer-Encoding: gzip"), 400},
		headCase{with("HTTP/1.0", "Transfer-Encoding: chunked"), 400},
		headCase{with("HTTP/1.0", "Transfer-Encoding: gzip"), 400})
	for _, value := range []string{"", "gzip", "identity", "gzip, chunked", "chunked, chunked", "chunked;", "chunked ;x", "xchunked", "chunke"} {
		checkHeads(t, headCase{with("HTTP/1.1", "Transfer-Encoding: "+value), 501})
		checkHeads(t, headCase{[]string{"GET /g HTTP/1.1", "Host: a", "Transfer-Encoding: " + value}, 501})
	}
	for _, value := range []string{"chunked", "Chunked", "CHUNKED", " \tchunked \t"} {
		reads(t, lines(with("HTTP/1.1", "TRANSFER-encoding:"+value)...)+"0\r\n\r\n", "POST /c 1 host=a; transfer-encoding="+strings.Trim(value, " \t")+"; keep")
	}
	reads(t, lines("GET /g HTTP/1.1", "Host: a", "Transfer-Encoding: chunked")+"2\r\nhi\r\n0\r\n\r\n", "GET /g 1 host=a; transfer-encoding=chunked; (hi) keep")
}

func TestP16_1ContentLength(t *testing.T) {
	with := func(more ...string) []string { return append([]string{"GET /g HTTP/1.1", "Host: a"}, more...) }
	checkHeads(t,
		headCase{with("Content-Length: 1", "Content-Length: 1"), 400},
		headCase{with("Content-Length: 9000", "content-length: 9000"), 400},
		headCase{with("Content-Length: 1", "B: c", "CONTENT-LENGTH: x"), 400})
	for _, value := range []string{"", "x", "-1", "+1", "1 1", "1,1", "0x1", "1a", "10000000", "00000001", "99999999999999999999", "1.0"} {
		checkHeads(t, headCase{with("Content-Length: " + value), 400}, headCase{[]string{"POST /c HTTP/1.0", "Content-Length: " + value}, 400})
	}
	for _, value := range []string{"8193", "0008193", "9999999", "10000"} {
		checkHeads(t, headCase{with("Content-Length: " + value), 413}, headCase{[]string{"POST /c HTTP/1.0", "Content-Length: " + value}, 413})
	}
}

func TestP16_1NoLength(t *testing.T) {
	checkHeads(t,
		headCase{[]string{"POST /c HTTP/1.1", "Host: a"}, 411},
		headCase{[]string{"POST /c HTTP/1.0"}, 411},
		headCase{[]string{"POST /c HTTP/1.1", "Host: a", "X-Content-Length: 2", "Length: 2"}, 411})
	for _, method := range []string{"GET", "HEAD", "SUBSCRIBE", "UNSUBSCRIBE"} {
		reads(t, lines(method+" /g HTTP/1.1", "Host: a"), method+" /g 1 host=a; keep")
	}
}

func TestP16_1HeadSizes(t *testing.T) {
	for _, size := range []int{4094, 4095, 4096} {
		s := filled(size)
		want := "GET /g 1 host=a; x=" + strings.Repeat("x", size-33) + "; keep"
		reads(t, s, want)
		// A line that is passed over counts apart.
		reads(t, "\r\n"+s, want)
		tells(t, get+s, false, true, "28: GET /g 1 host=a; keep", fmt.Sprint(28+size, ": ", want))
	}
	for _, size := range []int{4097, 4098, 5000, 9000} {
		s := filled(size)
		tells(t, s, true, true, "4096: 431")
		tells(t, "\r\n"+s, true, true, "4098: 431")
		tells(t, get+s, true, true, "28: GET /g 1 host=a; keep", "4124: 431")
		tells(t, get+"\r\n"+s, true, true, "28: GET /g 1 host=a; keep", "4126: 431")
	}
}

// A head that is too long is told as that, whatever else is wrong with it.
func TestP16_1HeadsWithoutEnd(t *testing.T) {
	for _, part := range []string{"x", "\r", " ", "\x00", "x\r\n", "x\n", "Host: a\r\n", "\r\n x", "GET /g HTTP/1.1\r\n"} {
		s := "PUT" + strings.Repeat(part, 5000)
		tells(t, s[:4095], false, false)
		refused(t, s[:4096], 431)
		refused(t, "\r\n"+s[:4096], 431)
	}
	refused(t, "\n"+strings.Repeat("x", 4095), 431)
	refused(t, filled(4097)[:4096], 431)
	refused(t, filled(4099)[:4096], 431)
	// Its end comes with the last byte that may come: then the other statuses are told.
	s := lines("PUT /g HTTP/1.1", "Host: a", "X: "+strings.Repeat("x", 4096-33))
	if len(s) != 4096 {
		t.Fatal(len(s))
	}
	refused(t, s, 501)
	refused(t, strings.Repeat("x", 4093)+"\n\r\n", 400)
}

func TestP16_1Keep(t *testing.T) {
	for _, c := range []struct {
		version string
		values  []string
		keep    bool
	}{
		{"1", nil, true}, {"0", nil, false},
		{"1", []string{"close"}, false}, {"0", []string{"close"}, false},
		{"1", []string{"CLOSE"}, false}, {"1", []string{"Close"}, false},
		{"1", []string{"keep-alive"}, true}, {"0", []string{"keep-alive"}, true}, {"0", []string{"Keep-Alive"}, true}, {"0", []string{"KEEP-ALIVE"}, true},
		{"1", []string{"keep-alive", "close"}, false}, {"0", []string{"keep-alive", "close"}, false}, {"0", []string{"close", "keep-alive"}, false}, {"1", []string{"x", "close"}, false},
		{"0", []string{"x", "keep-alive"}, true}, {"0", []string{"keep-alive", "x"}, true}, {"0", []string{"x"}, false}, {"1", []string{"x"}, true}, {"1", []string{""}, true}, {"0", []string{""}, false},
		// Each value is held against the words as a whole.
		{"1", []string{"close, x"}, true}, {"1", []string{"closed"}, true}, {"1", []string{"clos"}, true}, {"0", []string{"keep-alive, x"}, false}, {"0", []string{"keep-aliv"}, false}, {"0", []string{"keepalive"}, false}, {"1", []string{"\"close\""}, true},
	} {
		texts, fields := []string{"GET /g HTTP/1." + c.version, "Host: a", "B: close", "Proxy-Connection: close", "Keep-Alive: keep-alive"}, " host=a; b=close; proxy-connection=close; keep-alive=keep-alive;"
		for _, v := range c.values {
			texts, fields = append(texts, "Connection: "+v), fields+" connection="+v+";"
		}
		s := lines(texts...)
		if want := fmt.Sprint("GET /g ", c.version, fields); c.keep {
			reads(t, s, want+" keep")
		} else {
			readsLast(t, s, want)
		}
	}
	readsLast(t, lines("POST /c HTTP/1.1", "Host: a", "Content-Length: 2", "Connection: close")+"hi", "POST /c 1 host=a; content-length=2; connection=close; (hi)")
	readsLast(t, lines("POST /c HTTP/1.1", "Host: a", "Transfer-Encoding: chunked", "Connection: close")+"2\r\nhi\r\n0\r\n\r\n", "POST /c 1 host=a; transfer-encoding=chunked; connection=close; (hi)")
	readsLast(t, lines("POST /c HTTP/1.0", "Content-Length: 2")+"hi", "POST /c 0 content-length=2; (hi)")
}

func TestP16_2DeadAndIdle(t *testing.T) {
	for _, c := range []struct {
		s          string
		dead, idle bool
	}{
		{"", false, true}, {"\r\n", false, true}, {get, false, true}, {get + get, false, true}, {get + "\r\n", false, true}, {"\r\n" + get, false, true},
		{"G", false, false}, {"\r", false, false}, {"\n", false, false}, {"\r\n\r", false, false}, {"\r\nG", false, false}, {get + "\r", false, false}, {get + "G", false, false}, {get + "\r\nG", false, false}, {get + "\n", false, false},
		{get[:27], false, false},
		{lines("POST /c HTTP/1.1", "Host: a", "Content-Length: 2"), false, false},
		{lines("POST /c HTTP/1.1", "Host: a", "Content-Length: 2") + "h", false, false},
		{lines("POST /c HTTP/1.1", "Host: a", "Content-Length: 2") + "hi", false, true},
		{lines("POST /c HTTP/1.1", "Host: a", "Transfer-Encoding: chunked"), false, false},
		{lines("POST /c HTTP/1.1", "Host: a", "Transfer-Encoding: chunked") + "1\r\n", false, false},
		{lines("POST /c HTTP/1.1", "Host: a", "Transfer-Encoding: chunked") + "1\r\n!", false, false},
		{lines("POST /c HTTP/1.1", "Host: a", "Transfer-Encoding: chunked") + "1\r\n!\r", false, false},
		{lines("POST /c HTTP/1.1", "Host: a", "Transfer-Encoding: chunked") + "1\r\n!\r\n", false, false},
		{lines("POST /c HTTP/1.1", "Host: a", "Transfer-Encoding: chunked") + "1\r\n!\r\n0\r\n", false, false},
		{lines("POST /c HTTP/1.1", "Host: a", "Transfer-Encoding: chunked") + "1\r\n!\r\n0\r\n\r\n", false, true},
		{"\r\n\r\n\r\n", true, true}, {lines("PUT /g HTTP/1.1"), true, true}, {lines("GET /g HTTP/1.0"), true, true}, {lines("GET /g HTTP/1.0") + "x", true, true}, {lines("GET /g HTTP/1.0") + "\r\n", true, true}, {strings.Repeat("x", 4096), true, true}, {strings.Repeat("x", 9000), true, true},
	} {
		p := http.New()
		p.Feed([]byte(c.s))
		if p.Dead() != c.dead || p.Idle() != c.idle {
			t.Errorf("%.100q: dead %t, idle %t, not %t, %t", c.s, p.Dead(), p.Idle(), c.dead, c.idle)
		}
		p.Feed(nil)
		p.Feed([]byte{})
		if p.Dead() != c.dead || p.Idle() != c.idle {
			t.Errorf("%.100q, and nothing behind it: dead %t, idle %t", c.s, p.Dead(), p.Idle())
		}
	}
}

func TestP16_2NothingIsReadBehindTheEnd(t *testing.T) {
	for _, end := range []string{"\r\n\r\n\r\n", lines("PUT /g HTTP/1.1", "Host: a"), lines("GET /g HTTP/1.0"), lines("POST /c HTTP/1.1", "Host: a"), lines("GET /g HTTP/1.1", "Host: a", "Connection: close"), strings.Repeat("x", 4096), lines("GET /g HTTP/1.1", "Host: a", "Transfer-Encoding: chunked") + "x\r\n"} {
		p := http.New()
		if got := p.Feed([]byte(end)); len(got) != 1 {
			t.Errorf("%.100q: %q", end, showAll(got))
		}
		for range 3 {
			if got := p.Feed([]byte(get + "\r\n\r\n\r\n" + get)); len(got) != 0 || !p.Dead() || !p.Idle() {
				t.Errorf("behind %.100q: %q, dead %t, idle %t", end, showAll(got), p.Dead(), p.Idle())
			}
		}
	}
}

func TestP16_2ParsersAreByThemselves(t *testing.T) {
	one, two := http.New(), http.New()
	one.Feed([]byte(get[:10]))
	if !two.Idle() {
		t.Error("what one was fed is seen in another")
	}
	two.Feed([]byte("\r\n\r\n\r\n"))
	if one.Dead() || !two.Dead() {
		t.Error("one is dead by another")
	}
	if got := showAll(one.Feed([]byte(get[10:]))); !slices.Equal(got, []string{"GET /g 1 host=a; keep"}) {
		t.Errorf("%q", got)
	}
}

// What was handed in is written over behind each call.
func TestP16_5NothingIsKeptOrChanged(t *testing.T) {
	s := get + lines("POST /c HTTP/1.1", "Host: a", "X: y", "Content-Length: 9") + "some body" + lines("POST /d HTTP/1.1", "Host: a", "Transfer-Encoding: chunked") + "4\r\nmore\r\n5;x\r\n body\r\n0\r\nA: b\r\n\r\n" + get
	want := showAll(http.New().Feed([]byte(s)))
	if len(want) != 4 {
		t.Fatalf("%q", want)
	}
	for size := 1; size <= len(s); size++ {
		p, list := http.New(), []api.Parsed(nil)
		for part := range slices.Chunk([]byte(s), size) {
			room := append(slices.Clone(part), "spare room"...)
			fed := room[:len(part)]
			list = append(list, p.Feed(fed)...)
			if string(room) != string(part)+"spare room" {
				t.Fatalf("pieces of %d: Feed wrote over what it was fed: %q", size, room)
			}
			for i := range room {
				room[i] = 0xee
			}
		}
		if got := showAll(list); !slices.Equal(got, want) {
			t.Errorf("pieces of %d: %q, not %q", size, got, want)
		}
	}
}

func spoil(b []byte) {
	b = b[:cap(b)]
	for i := range b {
		b[i] = 0xee
	}
}

// spoilAll writes over all of what was told, the spare room too.
func spoilAll(list []api.Parsed) {
	list = list[:cap(list)]
	for i := range list {
		fields := list[i].Request.Fields
		fields = fields[:cap(fields)]
		for k := range fields {
			fields[k] = api.Field{Name: "written", Value: "over"}
		}
		spoil(list[i].Request.Body)
		list[i] = api.Parsed{Status: 999}
	}
}

// Of several requests that are told at once each is spoilt while the others are looked at; and all of them while the Parser goes on.
func TestP16_5AnswersAreNew(t *testing.T) {
	post := lines("POST /c HTTP/1.1", "Host: a", "Content-Length: 9") + "some body"
	pieces := lines("POST /d HTTP/1.1", "Host: a", "Transfer-Encoding: chunked") + "4\r\nmore\r\n0\r\n\r\n"
	s := []byte(post + pieces + get + post)
	want := showAll(http.New().Feed(s))
	for i := range want {
		list := http.New().Feed(s)
		spoilAll(list[i : i+1 : i+1])
		for k, x := range list {
			if k != i && show(x) != want[k] {
				t.Errorf("by way of answer %d answer %d has become %q", i, k, show(x))
			}
		}
	}
	p, got := http.New(), []string(nil)
	for range 3 {
		for part := range slices.Chunk(s, 50) {
			list := p.Feed(part)
			got = append(got, showAll(list)...)
			spoilAll(list)
		}
	}
	if !slices.Equal(got, slices.Repeat(want, 3)) {
		t.Errorf("answers that were written over are seen in later ones: %q", got)
	}
}

// run feeds wild streams, and makes the other calls with wild arguments.
func run(seed int64) string {
	r, out := rand.New(rand.NewSource(seed)), ""
	p := http.New()
	for range 30 {
		s := stream(r)
		for len(s) > 0 {
			n := min(len(s), 1+r.Intn(1<<uint(r.Intn(12))))
			out += fmt.Sprintln(showAll(p.Feed([]byte(s[:n]))), p.Dead(), p.Idle())
			s = s[n:]
		}
		if p.Dead() {
			p = http.New()
		}
		text := stream(r)
		status, more := http.Status([]byte(text[:min(len(text), r.Intn(300))]))
		list := []api.Field{{Name: text, Value: s}}
		out += fmt.Sprintln(status, more, http.Reason(r.Intn(700)-50))
		out += fmt.Sprintf("%q %q\n", http.Response(r.Intn(1200)-50, list, []byte(text), r.Intn(2) == 0), http.Ask(s, text, list, []byte(s)))
	}
	return out
}

func TestP1P2Runs(t *testing.T) {
	for seed := range int64(40) {
		if one, two := run(seed), run(seed); one != two {
			t.Fatalf("run %d: the answers differ", seed)
		}
	}
}
