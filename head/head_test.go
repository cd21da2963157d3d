package head_test

import (
	"fmt"
	"math"
	"math/big"
	"math/rand"
	"regexp"
	"slices"
	"strings"
	"testing"

	"hearth/api"
	"hearth/head"
)

// The signatures that the chapter lists.
var (
	_ func(string) bool                        = head.Token
	_ func(string) (api.Field, bool)           = head.Line
	_ func(string) (string, string, int, bool) = head.Start
	_ func([]api.Field, string) []string       = head.Get
	_ func(string, int, int) (int, bool)       = head.Number
	_ func(string, string) bool                = head.Same
	_ func(string) string                      = head.Lower
)

// inTokens are the bytes of tokens, as the chapter tells them.
const inTokens = "ABCDEFGHIJKLMNOPQRSTUVWXYZabcdefghijklmnopqrstuvwxyz0123456789!#$%&'*+-.^_`|~"

// oneByte gives the text of one byte.
func oneByte(c int) string { return string([]byte{byte(c)}) }

func TestP15_1TokenBytes(t *testing.T) {
	for c := range 256 {
		one := oneByte(c)
		want := strings.Contains(inTokens, one)
		for _, s := range []string{one, one + "a", "a" + one, "a" + one + "a", strings.Repeat("x", 63) + one, one + strings.Repeat("x", 63)} {
			if got := head.Token(s); got != want {
				t.Errorf("Token(%q): %t", s, got)
			}
		}
	}
}

func TestP15_1TokenSizes(t *testing.T) {
	for size, want := range map[int]bool{0: false, 1: true, 2: true, 63: true, 64: true, 65: false, 66: false, 128: false, 256: false, 257: false, 320: false, 65537: false} {
		for _, s := range []string{strings.Repeat("x", size), strings.Repeat("~", size), (strings.Repeat(inTokens, size/len(inTokens)+1))[:size]} {
			if got := head.Token(s); got != want {
				t.Errorf("Token of %d bytes, %.5q: %t", size, s, got)
			}
		}
	}
}

func TestP15_1TokenWords(t *testing.T) {
	for s, want := range map[string]bool{
		"GET": true, "M-SEARCH": true, "SOAPAction": true, "keep-alive": true, "!#$%&'*+-.^_`|~": true, "0": true, "1.1": true,
		"a b": false, " a": false, "a ": false, "a\n": false, "\ta": false, "a:": false, "a/b": false, "a,b": false, "é": false, "\u212a": false, "\xff": false, "(a)": false, "\"a\"": false, "a=b": false,
	} {
		if got := head.Token(s); got != want {
			t.Errorf("Token(%q): %t", s, got)
		}
	}
}

func TestP15_1LowerBytes(t *testing.T) {
	const great, small = "ABCDEFGHIJKLMNOPQRSTUVWXYZ", "abcdefghijklmnopqrstuvwxyz"
	for c := range 256 {
		one, want := oneByte(c), oneByte(c)
		if i := strings.Index(great, one); i >= 0 {
			want = small[i : i+1]
		}
		if got := head.Lower(one); got != want {
			t.Errorf("Lower(%q): %q, not %q", one, got, want)
		}
		if got := head.Lower("A" + one + "z"); got != "a"+want+"z" {
			t.Errorf("Lower of %q between others: %q", one, got)
		}
	}
}

func TestP15_1Lower(t *testing.T) {
	for s, want := range map[string]string{
		"": "", "a": "a", "Content-LENGTH": "content-length", "ÄÖ": "ÄÖ", "\xc4A\xff": "\xc4a\xff", "\u212a": "\u212a", "İ": "İ", "A\x00B": "a\x00b", "@[Z`{": "@[z`{",
		strings.Repeat("Q", 70000): strings.Repeat("q", 70000),
	} {
		if got := head.Lower(s); got != want {
			t.Errorf("Lower(%.20q): %.20q, not %.20q", s, got, want)
		}
	}
}

func TestP15_1Same(t *testing.T) {
	for _, c := range []struct {
		a, b string
		want bool
	}{
		{"", "", true}, {"a", "a", true}, {"a", "A", true}, {"Z", "z", true}, {"Keep-ALIVE", "kEEP-alive", true}, {"\xff", "\xff", true}, {"Ä", "Ä", true},
		{"", "a", false}, {"a", "b", false}, {"a", "aa", false}, {"close", "close ", false}, {" close", "close", false},
		{"Ä", "ä", false}, {"k", "\u212a", false}, {"K", "\u212a", false}, {"s", "ſ", false}, {"\xff", "\xfe", false}, {"\xff", "\ufffd", false}, {"[", "{", false}, {"@", "`", false}, {"a\x00", "a", false},
	} {
		if head.Same(c.a, c.b) != c.want || head.Same(c.b, c.a) != c.want {
			t.Errorf("Same of %q and %q: %t, %t", c.a, c.b, head.Same(c.a, c.b), head.Same(c.b, c.a))
		}
	}
}

func TestP15_2Line(t *testing.T) {
	long := strings.Repeat("V", 70000)
	for s, want := range map[string]api.Field{
		"SOAPAction:  a ":              {Name: "soapaction", Value: "a"},
		"Host: 192.168.1.1:5000":       {Name: "host", Value: "192.168.1.1:5000"},
		"a:":                           {Name: "a"},
		"a: ":                          {Name: "a"},
		"a: \t \t":                     {Name: "a"},
		"a:b":                          {Name: "a", Value: "b"},
		"a:\tb":                        {Name: "a", Value: "b"},
		"a: \t b \t ":                  {Name: "a", Value: "b"},
		"a: b c\td  e ":                {Name: "a", Value: "b c\td  e"},
		"a::":                          {Name: "a", Value: ":"},
		"a: :b: ":                      {Name: "a", Value: ":b:"},
		"A!#$%&'*+-.^_`|~9: X":         {Name: "a!#$%&'*+-.^_`|~9", Value: "X"},
		"a: Ä\xff\x80\xa0":             {Name: "a", Value: "Ä\xff\x80\xa0"},
		"a:\u00a0b\u2003":              {Name: "a", Value: "\u00a0b\u2003"},
		"a: \"KEEP\" ~":                {Name: "a", Value: "\"KEEP\" ~"},
		"a: \t" + long + " " + "\t":    {Name: "a", Value: long},
		strings.Repeat("N", 64) + ":v": {Name: strings.Repeat("n", 64), Value: "v"},
	} {
		if got, ok := head.Line(s); !ok || got != want {
			t.Errorf("Line(%.40q): %.40q, %t, not %.40q", s, got, ok, want)
		}
	}
}

func TestP15_2LineWrong(t *testing.T) {
	for _, s := range []string{
		"", ":", ": ", ":b", " :b", "a", "a b", "ab ", "a :b", " a:b", "\ta:b", "a\t:b", "a b:c", "(a):b", "a,b:c", "é:b", "\xff:b", "a\x00:b", "\"a\":b",
		strings.Repeat("n", 65) + ":v", strings.Repeat("n", 70000) + ":v",
		"a:b\r", "a:\r", "a:\r\n", "a:b\n", "a:\nb", "a:\x00", "\r\na:b", "a: b\x7f", "a:\x7f b", "a:\v", "a:b\v", "a:\f", "a: \x1f ", "GET / HTTP/1.1",
	} {
		if got, ok := head.Line(s); ok || got != (api.Field{}) {
			t.Errorf("Line(%.40q): %.40q, %t", s, got, ok)
		}
	}
}

func TestP15_2LineBytes(t *testing.T) {
	for c := range 256 {
		one := oneByte(c)
		want, value := c >= 32 && c != 127 || c == 9, one
		if c == 9 || c == 32 {
			value = ""
		}
		for s, v := range map[string]string{"a:" + one: value, "a: " + one + " ": value, "a:x" + one + "y": "x" + one + "y"} {
			got, ok := head.Line(s)
			if !want {
				v = ""
			}
			if ok != want || got.Value != v || ok != (got.Name == "a") {
				t.Errorf("Line(%q): %q, %t", s, got, ok)
			}
		}
		if _, ok := head.Line("a" + one + "b: v"); ok != (strings.Contains(inTokens, one) || one == ":") {
			t.Errorf("Line with %q in its name: %t", one, ok)
		}
	}
}

func TestP15_3Start(t *testing.T) {
	for _, c := range []struct {
		s, method, target string
		minor             int
	}{
		{"GET / HTTP/1.1", "GET", "/", 1},
		{"GET / HTTP/1.0", "GET", "/", 0},
		{"get * HTTP/1.1", "get", "*", 1},
		{"POST /ctl/ipc?a=b#c HTTP/1.1", "POST", "/ctl/ipc?a=b#c", 1},
		{"M-SEARCH * HTTP/1.1", "M-SEARCH", "*", 1},
		{"! !~ HTTP/1.0", "!", "!~", 0},
		{"GET HTTP/1.1 HTTP/1.1", "GET", "HTTP/1.1", 1},
		{strings.Repeat("m", 64) + " " + strings.Repeat("t", 512) + " HTTP/1.1", strings.Repeat("m", 64), strings.Repeat("t", 512), 1},
	} {
		if method, target, minor, ok := head.Start(c.s); method != c.method || target != c.target || minor != c.minor || !ok {
			t.Errorf("Start(%.40q): %.40q, %.40q, %d, %t", c.s, method, target, minor, ok)
		}
	}
}

func TestP15_3StartWrong(t *testing.T) {
	for _, s := range []string{
		"", " ", "  ", "GET", "GET ", "GET /", "GET / ", "GET  HTTP/1.1", " / HTTP/1.1", "GET HTTP/1.1", "  HTTP/1.1",
		"GET  / HTTP/1.1", "GET /  HTTP/1.1", " GET / HTTP/1.1", "GET / HTTP/1.1 ", "GET\t/ HTTP/1.1", "GET /\tHTTP/1.1", "GET /a b HTTP/1.1",
		"GET / HTTP/1.2", "GET / HTTP/1", "GET / HTTP/1.", "GET / HTTP/1.01", "GET / HTTP/1.11", "GET / HTTP/0.9", "GET / HTTP/2.0", "GET / HTTP/2", "GET / http/1.1", "GET / HTTP/1.1\r", "GET / HTTP/1.1\n", "GET / HTTP 1.1", "GET / XHTTP/1.1", "GET / HTTP/1.1x", "GET / HTTP/1.-1",
		"G@T / HTTP/1.1", "G:T / HTTP/1.1", "é / HTTP/1.1", strings.Repeat("m", 65) + " / HTTP/1.1",
		"GET " + strings.Repeat("t", 513) + " HTTP/1.1", "GET " + strings.Repeat("t", 70000) + " HTTP/1.1", "GET /\x80 HTTP/1.1", "GET /é HTTP/1.1", "GET \x7f HTTP/1.1", "GET /\x00 HTTP/1.1", "GET /\n HTTP/1.1",
	} {
		if method, target, minor, ok := head.Start(s); method != "" || target != "" || minor != 0 || ok {
			t.Errorf("Start(%.40q): %.40q, %.40q, %d, %t", s, method, target, minor, ok)
		}
	}
}

func TestP15_3StartBytes(t *testing.T) {
	for c := range 256 {
		one := oneByte(c)
		for _, target := range []string{one, "/" + one, one + "/", strings.Repeat("/", 511) + one} {
			if _, got, _, ok := head.Start("GET " + target + " HTTP/1.1"); ok != (c >= 33 && c <= 126) || ok != (got == target) {
				t.Errorf("Start with the target %.20q: %.20q, %t", target, got, ok)
			}
		}
		if method, _, _, ok := head.Start("G" + one + " / HTTP/1.0"); ok != strings.Contains(inTokens, one) || ok != (method == "G"+one) {
			t.Errorf("Start with %q in its method: %q, %t", one, method, ok)
		}
	}
}

func TestP15_4Get(t *testing.T) {
	list := []api.Field{{Name: "a", Value: "1"}, {Name: "b", Value: "2"}, {Name: "a", Value: ""}, {Name: "A", Value: "3"}, {Name: "", Value: "4"}, {Name: "a ", Value: "5"}, {Name: "a", Value: "1"}}
	for name, want := range map[string][]string{"a": {"1", "", "1"}, "b": {"2"}, "A": {"3"}, "": {"4"}, "a ": {"5"}, "c": nil, "B": nil, "aa": nil} {
		if got := head.Get(list, name); !slices.Equal(got, want) {
			t.Errorf("Get of %q: %q, not %q", name, got, want)
		}
	}
	if got := head.Get(nil, "a"); len(got) != 0 {
		t.Errorf("Get of no list: %q", got)
	}
	if got := head.Get([]api.Field{}, ""); len(got) != 0 {
		t.Errorf("Get of a list without fields: %q", got)
	}
}

func TestP15_4Number(t *testing.T) {
	for _, c := range []struct {
		s          string
		base, most int
		want       int
	}{
		{"0", 10, 0, 0}, {"7", 10, 7, 7}, {"42", 10, 42, 42}, {"42", 10, 43, 42}, {"007", 10, 7, 7}, {"0000000", 10, 0, 0},
		{"9999999", 10, 9999999, 9999999}, {"9999999", 10, math.MaxInt, 9999999}, {"1234567", 10, 1234567, 1234567},
		{"0", 16, 0, 0}, {"9", 16, 9, 9}, {"a", 16, 10, 10}, {"F", 16, 15, 15}, {"0A", 16, 10, 10}, {"fF", 16, 255, 255}, {"10", 16, 16, 16}, {"0000000", 16, 0, 0},
		{"abcdef", 16, math.MaxInt, 0xabcdef}, {"ABCDEF", 16, math.MaxInt, 0xabcdef}, {"fffffff", 16, 0xfffffff, 0xfffffff}, {"1234567", 16, 0x1234567, 0x1234567}, {"1e5", 16, 0x1e5, 0x1e5}, {"0b1", 16, 0xb1, 0xb1},
	} {
		if n, ok := head.Number(c.s, c.base, c.most); n != c.want || !ok {
			t.Errorf("Number(%q, %d, %d): %d, %t", c.s, c.base, c.most, n, ok)
		}
	}
}

func TestP15_4NumberWrong(t *testing.T) {
	for _, c := range []struct {
		s          string
		base, most int
	}{
		{"42", 10, 41}, {"1", 10, 0}, {"0", 10, -1}, {"0", 10, math.MinInt}, {"9999999", 10, 9999998}, {"ff", 16, 254}, {"0", 16, -1},
		{"", 10, 9}, {"", 16, 9}, {"00000000", 10, 9}, {"00000001", 16, 9}, {"12345678", 10, math.MaxInt}, {strings.Repeat("0", 70000), 10, 9}, {"18446744073709551617", 10, math.MaxInt},
		{"-1", 10, 9}, {"-0", 10, 9}, {"+1", 10, 9}, {"+f", 16, 99}, {" 1", 10, 9}, {"1 ", 10, 9}, {"1\n", 10, 9}, {"1.0", 10, 9}, {"1_0", 10, 99}, {"1_0", 16, 99}, {"1e1", 10, 99}, {"1,0", 10, 99},
		{"a", 10, 99}, {"f", 10, 99}, {"g", 16, 99}, {"G", 16, 99}, {"0x1", 16, 99}, {"0X1", 16, 99}, {"#1", 16, 99}, {"1h", 16, 999}, {"/", 10, 99}, {":", 10, 99}, {":", 16, 99}, {"@", 16, 99}, {"`", 16, 99}, {"\xff", 16, 99}, {"٣", 10, 9}, {"１", 10, 9}, {"1\x00", 10, 9},
		{"1", 8, 9}, {"1", 0, 9}, {"0x1", 0, 9}, {"1", 2, 9}, {"1", 1, 9}, {"1", 11, 9}, {"1", 36, 99}, {"1", -10, 9}, {"1", -16, 9}, {"1", 10 + 1<<32, 9}, {"1", 37, 9}, {"1", math.MinInt, 9}, {"1", math.MaxInt, 9},
	} {
		if n, ok := head.Number(c.s, c.base, c.most); n != 0 || ok {
			t.Errorf("Number(%.40q, %d, %d): %d, %t", c.s, c.base, c.most, n, ok)
		}
	}
}

// What is answered may be written over, and what was handed in too.
func TestP15_5NothingIsSharedOrChanged(t *testing.T) {
	whole := []api.Field{{Name: "a", Value: "1"}, {Name: "b", Value: "2"}, {Name: "a", Value: "3"}, {Name: "a", Value: "spare"}}
	list := whole[:3]
	one, two := head.Get(list, "a"), head.Get(list, "a")
	for _, got := range [][]string{one, head.Get(list, "b")} {
		got = got[:cap(got)]
		for i := range got {
			got[i] = "written over"
		}
	}
	if !slices.Equal(two, []string{"1", "3"}) || !slices.Equal(head.Get(list, "a"), two) {
		t.Errorf("an answer was changed by way of another: %q", two)
	}
	if want := []api.Field{{Name: "a", Value: "1"}, {Name: "b", Value: "2"}, {Name: "a", Value: "3"}, {Name: "a", Value: "spare"}}; !slices.Equal(whole, want) {
		t.Errorf("the list was changed: %q", whole)
	}
	clear(whole)
	if !slices.Equal(two, []string{"1", "3"}) {
		t.Errorf("an answer was changed by way of the list: %q", two)
	}
}

// The chapter's words once more, as expressions.
var (
	tokens  = regexp.MustCompile("^[A-Za-z0-9!#$%&'*+.^_`|~-]{1,64}$")
	lines   = regexp.MustCompile("^([A-Za-z0-9!#$%&'*+.^_`|~-]{1,64}):[ \t]*((?:[^\\x00-\\x20\\x7f](?:[^\\x00-\\x08\\x0a-\\x1f\\x7f]*[^\\x00-\\x20\\x7f])?)?)[ \t]*$")
	starts  = regexp.MustCompile("^([A-Za-z0-9!#$%&'*+.^_`|~-]{1,64}) ([!-~]{1,512}) HTTP/1\\.([01])$")
	numbers = map[int]*regexp.Regexp{10: regexp.MustCompile("^[0-9]{1,7}$"), 16: regexp.MustCompile("^[0-9A-Fa-f]{1,7}$")}
)

// wild gives a text of parts that are near to being right.
func wild(r *rand.Rand) string {
	parts := []string{"GET", "a", "Z", "0", "12", "fF", " ", "\t", ":", ": ", " / ", "/", "HTTP/1.1", " HTTP/1.0", "HTTP/1.", "\r", "\n", "\x7f", "\x00", "~", "-", "_", "é", "\xff", "\u212a", strings.Repeat("x", r.Intn(70)), strings.Repeat("/", r.Intn(520))}
	s := ""
	for range r.Intn(8) {
		s += parts[r.Intn(len(parts))]
	}
	if r.Intn(8) == 0 {
		s = "GET " + s + " HTTP/1.1"
	}
	return s
}

// numberOf is P15.4's Number by way of other means.
func numberOf(s string, base, most int) (int, bool) {
	shape := numbers[base]
	if shape == nil || !shape.MatchString(s) {
		return 0, false
	}
	n, _ := new(big.Int).SetString(s, base)
	if n.Cmp(big.NewInt(int64(most))) > 0 {
		return 0, false
	}
	return int(n.Int64()), true
}

func TestP15_1ToP15_4ByTheirWords(t *testing.T) {
	right := map[string]int{}
	for seed := range int64(50000) {
		r := rand.New(rand.NewSource(seed))
		s := wild(r)
		if got := head.Token(s); got != tokens.MatchString(s) {
			t.Fatalf("Token(%q): %t", s, got)
		} else if got {
			right["token"]++
		}
		// Expressions go by characters: each byte is made one.
		m := lines.FindStringSubmatch(wide(s))
		f, ok := head.Line(s)
		if ok != (m != nil) || ok && (f.Name != strings.ToLower(m[1]) || wide(f.Value) != m[2]) {
			t.Fatalf("Line(%q): %q, %t, not %q", s, f, ok, m)
		} else if ok {
			right["line"]++
		}
		m = starts.FindStringSubmatch(s)
		method, target, minor, ok := head.Start(s)
		if ok != (m != nil) || ok && (method != m[1] || target != m[2] || fmt.Sprint(minor) != m[3]) {
			t.Fatalf("Start(%q): %q, %q, %d, %t, not %q", s, method, target, minor, ok, m)
		} else if ok {
			right["start"]++
		}
		base, most := []int{10, 16, 8}[r.Intn(3)], r.Intn(1<<uint(r.Intn(29)))
		wantN, want := numberOf(s, base, most)
		if n, ok := head.Number(s, base, most); n != wantN || ok != want {
			t.Fatalf("Number(%q, %d, %d): %d, %t, not %d, %t", s, base, most, n, ok, wantN, want)
		} else if ok {
			right["number"]++
		}
	}
	for _, name := range []string{"token", "line", "start", "number"} {
		if right[name] < 100 {
			t.Errorf("only %d texts were right by %s", right[name], name)
		}
	}
}

// wide gives a text with a character for each byte.
func wide(s string) string {
	var out []rune
	for i := range len(s) {
		out = append(out, rune(s[i]))
	}
	return string(out)
}

// run makes calls with wild arguments, and tells what they answer.
func run(seed int64) string {
	r, out := rand.New(rand.NewSource(seed)), ""
	for range 20 {
		s, u := wild(r), wild(r)
		var list []api.Field
		for range r.Intn(5) {
			list = append(list, api.Field{Name: wild(r), Value: wild(r)}, api.Field{Name: u, Value: s})
		}
		f, ok := head.Line(s)
		method, target, minor, right := head.Start(s)
		n, is := head.Number(s, r.Intn(40)-2, r.Intn(1000)-2)
		out += fmt.Sprintln(head.Token(s), f, ok, method, target, minor, right, head.Get(list, u), n, is, head.Same(s, u), head.Lower(s))
	}
	return out
}

func TestP1P2Runs(t *testing.T) {
	for seed := range int64(2000) {
		if one, two := run(seed), run(seed); one != two {
			t.Fatalf("run %d: the answers differ:\n%s\n%s", seed, one, two)
		}
	}
}
