package http_test

import (
	"fmt"
	"strings"
	"testing"
)

// chunked is a head behind which a body comes in pieces.
const chunked = "POST /c HTTP/1.1\r\nHost: a\r\nTransfer-Encoding: chunked\r\n\r\n"

// readsBody wants pieces to be read as a body.
func readsBody(t *testing.T, pieces, body string) {
	t.Helper()
	want := "POST /c 1 host=a; transfer-encoding=chunked;"
	if body != "" {
		want += " (" + body + ")"
	}
	reads(t, chunked+pieces, want+" keep")
}

// refusesBody wants a status to be told as soon as just that much of the pieces has come.
func refusesBody(t *testing.T, pieces string, status int) {
	t.Helper()
	refused(t, chunked+pieces, status)
}

func TestP16_1Pieces(t *testing.T) {
	for pieces, body := range map[string]string{
		"0\r\n\r\n":                                 "",
		"1\r\n!\r\n0\r\n\r\n":                       "!",
		"2\r\nhi\r\n5\r\n, you\r\n0\r\n\r\n":        "hi, you",
		"A\r\n0123456789\r\n0\r\n\r\n":              "0123456789",
		"0a\r\n0123456789\r\n0\r\n\r\n":             "0123456789",
		"0000002\r\nhi\r\n0000000\r\n\r\n":          "hi",
		"2\r\n\r\n\r\n0\r\n\r\n":                    "\r\n",
		"4\r\n\r\n0\r\r\n0\r\n\r\n":                 "\r\n0\r",
		"1\r\n\xff\r\n1\r\n\x00\r\n00\r\n\r\n":      "\xff\x00",
		"2;\r\nhi\r\n0;\r\n\r\n":                    "hi",
		"2;a=b;c\r\nhi\r\n0;a=b\r\n\r\n":            "hi",
		"2; \"\x00\xff\r\"\r\nhi\r\n0;;\r\n\r\n":    "hi",
		"2;5\r\nhi\r\n0;3\r\n\r\n":                  "hi",
		"1\r\n!\r\n0\r\nA: b\r\n\r\n":               "!",
		"0\r\nContent-Length: 3\r\nHost: x\r\n\r\n": "",
	} {
		readsBody(t, pieces, body)
	}
}

func TestP16_1PiecesOneBehindTheOther(t *testing.T) {
	var pieces, body strings.Builder
	for n := 1; n < 120; n++ {
		part := strings.Repeat(string(rune('a'+n%26)), n)
		fmt.Fprintf(&pieces, "%x\r\n%s\r\n", n, part)
		body.WriteString(part)
	}
	readsBody(t, pieces.String()+"0\r\n\r\n", body.String())
}

func TestP16_1PiecesNumbers(t *testing.T) {
	for _, number := range []string{"", " ", "x", "g", "-1", "+1", "0x1", "1 ", " 1", "1\t", "00000001", "00000000", "12345678", "1,", "1.0", "1\r", "1:", " ;x", ";", ";1", "1 ;x", "\x00", "\xff1", "1\"2\""} {
		refusesBody(t, number+"\r\n", 400)
		refusesBody(t, "2\r\nhi\r\n"+number+"\r\n", 400)
		// It is looked at when its LF has come, not earlier.
		tells(t, chunked+number+"\r", false, false)
	}
	// A bare one.
	for _, line := range []string{"1\n", "0\n", "\n", "1;x\n", "x\n", "2001\n", "1\r \n"} {
		refusesBody(t, line, 400)
		refusesBody(t, "2\r\nhi\r\n"+line, 400)
	}
}

func TestP16_1PiecesNumbersSizes(t *testing.T) {
	// 256 bytes with the CR and the LF, and no more.
	for _, size := range []int{1, 100, 252, 253} {
		x := ";" + strings.Repeat("x", size-1)
		readsBody(t, "2"+x+"\r\nhi\r\n0"+x+"\r\n\r\n", "hi")
	}
	for _, size := range []int{254, 255, 256, 300, 5000} {
		for _, ahead := range []string{"", "2\r\nhi\r\n"} {
			line := "2;" + strings.Repeat("x", size-1) + "\r\n"
			tells(t, chunked+ahead+line[:255], false, false)
			refusesBody(t, ahead+line[:256], 400)
		}
	}
	refusesBody(t, strings.Repeat("x", 256), 400)
	refusesBody(t, strings.Repeat("\r", 256), 400)
	refusesBody(t, strings.Repeat("x", 254)+"\r\n", 400)
	refusesBody(t, "0;"+strings.Repeat("x", 253)+"\n", 400)
	refusesBody(t, "2\r\nhi\r\n0;"+strings.Repeat("x", 253)+"\r", 400)
}

func TestP16_1PiecesEdges(t *testing.T) {
	for c := range 256 {
		one := string([]byte{byte(c)})
		if c != '\r' {
			refusesBody(t, "2\r\nhi"+one, 400)
		}
		if c != '\n' {
			refusesBody(t, "2\r\nhi\r"+one, 400)
		}
	}
	tells(t, chunked+"2\r\nhi", false, false)
	tells(t, chunked+"2\r\nhi\r", false, false)
	refusesBody(t, "1\r\nhi", 400)
	refusesBody(t, "3\r\nhi\r\n", 400)
	readsBody(t, "3\r\nhi\r\r\n0\r\n\r\n", "hi\r")
}

func TestP16_1PiecesTooMany(t *testing.T) {
	piece := func(n int) string { return fmt.Sprintf("%x\r\n%s\r\n", n, strings.Repeat("p", n)) }
	for _, sizes := range [][]int{{8192}, {8191}, {8191, 1}, {1, 8191}, {4096, 4096}, {4096, 4095, 1}, {1, 2, 3}} {
		pieces, all := "", 0
		for _, n := range sizes {
			pieces, all = pieces+piece(n), all+n
		}
		readsBody(t, pieces+"0\r\n\r\n", strings.Repeat("p", all))
		more := 8192 - all + 1
		refusesBody(t, pieces+fmt.Sprintf("%x\r\n", more), 413)
		refusesBody(t, pieces+fmt.Sprintf("%X;x\r\n", more+1), 413)
		refusesBody(t, pieces+"fffffff\r\n", 413)
		refusesBody(t, pieces+"10000000\r\n", 400)
	}
	refusesBody(t, "2001\r\n", 413)
	refusesBody(t, "0002001\r\n", 413)
	refusesBody(t, "2001\n", 400)
	refusesBody(t, "2001 \r\n", 400)
	tells(t, chunked+"2001\r", false, false)
	tells(t, chunked+"2000\r\n", false, false)
}

func TestP16_1Tail(t *testing.T) {
	for _, tail := range []string{"", "A: b\r\n", "A:\r\nB: c\r\nA: d\r\n", "Transfer-Encoding: x\r\n", "Connection: close\r\n", strings.Repeat("A:\r\n", 200), "X: " + strings.Repeat("x", 900) + "\r\n"} {
		readsBody(t, "2\r\nhi\r\n0\r\n"+tail+"\r\n", "hi")
		readsBody(t, "0;x\r\n"+tail+"\r\n", "")
	}
	for _, tail := range []string{"bad\r\n", "A: b\r\nbad\r\n", "bad\r\nA: b\r\n", ": b\r\n", "A : b\r\n", " A: b\r\n", "A: \x00\r\n", "A: b\n", "A: b\nB: c\r\n", "bad\n", "\r\r\n", "A: b\r\r\n", "GET / HTTP/1.1\r\n"} {
		refusesBody(t, "2\r\nhi\r\n0\r\n"+tail+"\r\n", 400)
		tells(t, chunked+"0\r\n"+tail+"\r", false, false)
	}
	// The last one is bare.
	refusesBody(t, "0\r\n\n", 400)
	refusesBody(t, "0\r\nA: b\r\n\n", 400)
}

func TestP16_1TailSizes(t *testing.T) {
	tail := func(size int) string { return "X: " + strings.Repeat("x", size-7) + "\r\n\r\n" }
	for _, size := range []int{100, 1023, 1024} {
		readsBody(t, "2\r\nhi\r\n0\r\n"+tail(size), "hi")
		refusesBody(t, "0\r\n"+strings.Replace(tail(size), ":", " ", 1), 400)
	}
	for _, size := range []int{1025, 1026, 2000, 9000} {
		tells(t, chunked+"0\r\n"+tail(size)[:1023], false, false)
		refusesBody(t, "0\r\n"+tail(size)[:1024], 431)
	}
	// One that is too long is told as that, whatever else is wrong with it.
	for _, part := range []string{"x", "\r", "x\n", "A: b\r\n", "bad\r\n", "\x00"} {
		s := "x" + strings.Repeat(part, 1024)
		refusesBody(t, "0\r\n"+s[:1024], 431)
	}
	refusesBody(t, "0\r\n"+strings.Repeat("x", 1021)+"\n\r\n", 400)
	refusesBody(t, "0\r\n"+strings.Repeat("x", 1022)+"\n\n", 400)
	refusesBody(t, "0\r\n"+strings.Repeat("A:\r\n", 256), 431)
	readsBody(t, "0\r\nB: c\r\n"+strings.Repeat("A:\r\n", 253)+"\r\n", "")
}
