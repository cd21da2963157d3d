package keyed_test

import (
	"cmp"
	"fmt"
	"math"
	"math/rand"
	"slices"
	"strings"
	"testing"

	"hearth/api"
	"hearth/keyed"
)

type table = keyed.Table[string, int]

// The signatures that the chapter lists.
var (
	_ func(int, func(a, b string) int) *table                         = keyed.New[string, int]
	_ func(*table, string, int) api.Errno                             = (*table).Put
	_ func(*table, string) (int, bool)                                = (*table).Get
	_ func(*table, string) bool                                       = (*table).Drop
	_ func(*table) int                                                = (*table).Len
	_ func(*table) int                                                = (*table).Most
	_ func(*table) func(func(string, int) bool)                       = (*table).All
	_ func(*table, int) (string, int, bool)                           = (*table).At
	_ *keyed.Table[func(), []int]                                     = keyed.New[func(), []int](1, func(a, b func()) int { return 0 })
	_ func(*keyed.Table[[2]int, api.Flow]) (n int)                    = (*keyed.Table[[2]int, api.Flow]).Len
	_ func(*keyed.Table[float64, struct{}]) (n int)                   = (*keyed.Table[float64, struct{}]).Most
	_ func(*keyed.Table[api.Flow, api.MAC], api.Flow) (api.MAC, bool) = (*keyed.Table[api.Flow, api.MAC]).Get
)

// numbers gives a table of numbers by numbers.
func numbers(most int) *keyed.Table[int, int] { return keyed.New[int, int](most, cmp.Compare[int]) }

// told gives what All tells, as a text.
func told[K, V any](t *keyed.Table[K, V]) string {
	out := ""
	t.All()(func(k K, v V) bool {
		out += fmt.Sprint(k, ":", v, " ")
		return true
	})
	return out
}

// placed gives what At tells of all places, as a text.
func placed[K, V any](t *keyed.Table[K, V]) string {
	out := ""
	for i := range t.Len() {
		k, v, ok := t.At(i)
		if !ok {
			return fmt.Sprint("none at ", i)
		}
		out += fmt.Sprint(k, ":", v, " ")
	}
	return out
}

// want holds a table against what it should have, as a text of keys and values.
func want[K, V any](t *testing.T, x *keyed.Table[K, V], text string) {
	t.Helper()
	if got := told(x); got != text {
		t.Errorf("All: %s, not %s", got, text)
	}
	if got := placed(x); got != text {
		t.Errorf("At: %s, not %s", got, text)
	}
	if n := strings.Count(text, " "); x.Len() != n {
		t.Errorf("Len: %d, not %d", x.Len(), n)
	}
}

func TestP6_1New(t *testing.T) {
	for _, c := range []struct{ most, want int }{
		{0, 0}, {1, 1}, {2, 2}, {4096, 4096}, {math.MaxInt, math.MaxInt},
		{-1, 0}, {-2, 0}, {math.MinInt, 0},
	} {
		x := numbers(c.most)
		if x.Most() != c.want || x.Len() != 0 || told(x) != "" {
			t.Errorf("New(%d): Most %d, Len %d", c.most, x.Most(), x.Len())
		}
		if _, _, ok := x.At(0); ok {
			t.Errorf("New(%d): it has a key", c.most)
		}
		if v, ok := x.Get(0); ok || v != 0 {
			t.Errorf("New(%d): 0 has a value", c.most)
		}
		if x.Drop(0) {
			t.Errorf("New(%d): 0 had a value", c.most)
		}
		e := x.Put(1, 2)
		if full := c.want == 0; full != (e == api.ErrFull) || !full && e != api.OK {
			t.Errorf("New(%d): Put: %v", c.most, e)
		}
		if x.Len() != min(c.want, 1) || x.Most() != c.want {
			t.Errorf("New(%d): Most %d, Len %d behind Put", c.most, x.Most(), x.Len())
		}
	}
}

// The chapter's example.
func TestP6_2Example(t *testing.T) {
	x := numbers(2)
	for i, c := range []struct {
		k    int
		want api.Errno
	}{{5, api.OK}, {3, api.OK}, {4, api.ErrFull}, {5, api.OK}} {
		if e := x.Put(c.k, i); e != c.want {
			t.Errorf("Put(%d): %v", c.k, e)
		}
	}
	want(t, x, "3:1 5:3 ")
}

func TestP6_2PutGetDrop(t *testing.T) {
	x := keyed.New[string, int](3, strings.Compare)
	for i, k := range []string{"b", "", "ab"} {
		if e := x.Put(k, i+1); e != api.OK {
			t.Errorf("Put(%q): %v", k, e)
		}
		if x.Len() != i+1 {
			t.Errorf("Len: %d behind %d keys", x.Len(), i+1)
		}
	}
	want(t, x, ":2 ab:3 b:1 ")
	for _, k := range []string{"a", "abc", "c", "\x00"} { // none has a value, and there is no room for one
		if e := x.Put(k, 9); e != api.ErrFull {
			t.Errorf("Put(%q): %v", k, e)
		}
		if v, ok := x.Get(k); ok || v != 0 {
			t.Errorf("Get(%q): %d, %t", k, v, ok)
		}
		if x.Drop(k) {
			t.Errorf("Drop(%q)", k)
		}
		want(t, x, ":2 ab:3 b:1 ")
	}
	for i, k := range []string{"ab", "", "b", "ab"} { // there is room for what is there
		if e := x.Put(k, 10+i); e != api.OK {
			t.Errorf("Put(%q): %v", k, e)
		}
		if v, ok := x.Get(k); !ok || v != 10+i {
			t.Errorf("Get(%q): %d, %t", k, v, ok)
		}
	}
	want(t, x, ":11 ab:13 b:12 ")
	if !x.Drop("ab") || x.Drop("ab") {
		t.Error("Drop")
	}
	if v, ok := x.Get("ab"); ok || v != 0 {
		t.Errorf("Get of what was dropped: %d, %t", v, ok)
	}
	want(t, x, ":11 b:12 ")
	if e := x.Put("z", 0); e != api.OK { // a value may be 0
		t.Error(e)
	}
	if v, ok := x.Get("z"); !ok || v != 0 {
		t.Errorf("Get of 0: %d, %t", v, ok)
	}
	if e := x.Put("y", 0); e != api.ErrFull {
		t.Error(e)
	}
	want(t, x, ":11 b:12 z:0 ")
}

// Beside a false all is zero, of whatever type it is.
func TestP6_2Zero(t *testing.T) {
	x := keyed.New[*int, []byte](1, func(a, b *int) int { return *a - *b })
	one, two := 1, 2
	x.Put(&one, []byte("one"))
	if v, ok := x.Get(&two); ok || v != nil {
		t.Errorf("Get: %v", v)
	}
	for _, i := range []int{1, -1} {
		if k, v, ok := x.At(i); ok || k != nil || v != nil {
			t.Errorf("At(%d): %v, %v", i, k, v)
		}
	}
}

// The order alone tells which keys are one, and which one comes first.
func TestP6_2Order(t *testing.T) {
	falling := keyed.New[int, int](9, func(a, b int) int { return cmp.Compare(b, a) })
	tens := keyed.New[int, int](9, func(a, b int) int { return (a/10 - b/10) * 1000 })
	for i, k := range []int{15, 31, 2, 17, 23} {
		falling.Put(k, i)
		tens.Put(k, i)
	}
	want(t, falling, "31:1 23:4 17:3 15:0 2:2 ")
	if v, ok := tens.Get(19); tens.Len() != 4 || !ok || v != 3 {
		t.Errorf("of the tens: %d, Len %d", v, tens.Len())
	}
	if !tens.Drop(12) || tens.Drop(17) || tens.Len() != 3 {
		t.Error("Drop by the tens")
	}
	ends := keyed.New[int, int](9, func(a, b int) int { // as great as they may be
		return map[int]int{-1: math.MinInt, 0: 0, 1: math.MaxInt}[cmp.Compare(a, b)]
	})
	for _, k := range []int{2, 3, 1} {
		ends.Put(k, k)
	}
	want(t, ends, "1:1 2:2 3:3 ")
}

func TestP6_3AllRises(t *testing.T) {
	for n := range 8 {
		keys := rand.New(rand.NewSource(int64(n))).Perm(n)
		x, text := numbers(n), ""
		for i, k := range keys {
			x.Put(k, i)
		}
		for k := range n {
			text += fmt.Sprint(k, ":", slices.Index(keys, k), " ")
		}
		want(t, x, text)
	}
}

func TestP6_3AllEnds(t *testing.T) {
	x := numbers(20)
	for k := range 20 {
		x.Put(k, k*k)
	}
	for stop := range 20 {
		calls := 0
		x.All()(func(k, v int) bool {
			if k != calls || v != k*k {
				t.Errorf("call %d: %d, %d", calls, k, v)
			}
			calls++
			return k != stop
		})
		if calls != stop+1 {
			t.Errorf("told to end at %d: %d calls", stop, calls)
		}
	}
}

func TestP6_3AllAgain(t *testing.T) {
	x := numbers(9)
	x.Put(1, 10)
	x.Put(2, 20)
	all, got := x.All(), ""
	for k := range all {
		for l := range all {
			got += fmt.Sprint(k, l, " ")
		}
	}
	if got != "1 1 1 2 2 1 2 2 " {
		t.Errorf("one in the other: %s", got)
	}
	x.Put(3, 30) // it has not begun anew yet
	x.Drop(1)
	got = ""
	for k, v := range all {
		got += fmt.Sprint(k, ":", v, " ")
	}
	if got != "2:20 3:30 " {
		t.Errorf("again: %s", got)
	}
}

// What is put or dropped while All goes on plays no part in it, but holds at once.
func TestP6_3AllMeanwhile(t *testing.T) {
	for name, change := range map[string]func(x *keyed.Table[int, int], k int){
		"itself dropped":     func(x *keyed.Table[int, int], k int) { x.Drop(k) },
		"the next dropped":   func(x *keyed.Table[int, int], k int) { x.Drop(k + 2) },
		"the last dropped":   func(x *keyed.Table[int, int], k int) { x.Drop(k - 2) },
		"more put":           func(x *keyed.Table[int, int], k int) { x.Put(k+1, 7); x.Put(k-1, 7) },
		"itself put":         func(x *keyed.Table[int, int], k int) { x.Put(k, 7) },
		"the next put":       func(x *keyed.Table[int, int], k int) { x.Put(k+2, 7) },
		"all dropped":        func(x *keyed.Table[int, int], k int) { empty(x) },
		"all put, one by it": func(x *keyed.Table[int, int], k int) { empty(x); x.Put(k+2, 7); x.Put(100, 7) },
	} {
		x, expect := numbers(100), ""
		for k := 0; k < 40; k += 2 {
			x.Put(k, -k)
			expect += fmt.Sprint(k, ":", -k, " ")
		}
		got := ""
		for k, v := range x.All() {
			got += fmt.Sprint(k, ":", v, " ")
			change(x, k)
		}
		if got != expect {
			t.Errorf("%s: %s", name, got)
		}
		if told(x) == expect {
			t.Errorf("%s: it has changed nothing", name)
		}
		if told(x) != placed(x) {
			t.Errorf("%s: All and At tell of other keys: %s, %s", name, told(x), placed(x))
		}
	}
}

// empty drops all keys.
func empty(x *keyed.Table[int, int]) {
	for k := range x.All() {
		x.Drop(k)
	}
}

func TestP6_3AllMeanwhileHolds(t *testing.T) {
	x := numbers(3)
	for _, k := range []int{1, 2, 3} {
		x.Put(k, k)
	}
	for k := range x.All() {
		if e := x.Put(9, 0); e != api.ErrFull {
			t.Errorf("Put of one more: %v", e)
		}
		if !x.Drop(k) || x.Drop(k) || x.Len() != 2 {
			t.Error("Drop")
		}
		if _, ok := x.Get(k); ok {
			t.Error("it has its value still")
		}
		if e := x.Put(k+10, k); e != api.OK || x.Len() != 3 {
			t.Errorf("Put in its place: %v", e)
		}
	}
	want(t, x, "11:1 12:2 13:3 ")
}

func TestP6_3At(t *testing.T) {
	x := numbers(100)
	for k := 20; k > 0; k-- {
		x.Put(3*k, k)
	}
	for i := range 20 {
		if k, v, ok := x.At(i); k != 3*(i+1) || v != i+1 || !ok {
			t.Errorf("At(%d): %d, %d, %t", i, k, v, ok)
		}
	}
	for _, i := range []int{-1, -2, -20, math.MinInt, 20, 21, 99, math.MaxInt} {
		if k, v, ok := x.At(i); k != 0 || v != 0 || ok {
			t.Errorf("At(%d): %d, %d, %t", i, k, v, ok)
		}
	}
}

func TestP6_4Shared(t *testing.T) {
	type name struct{ text string }
	x := keyed.New[*name, []int](2, func(a, b *name) int { return strings.Compare(a.text, b.text) })
	k, v := &name{"k"}, []int{1, 2, 3}
	x.Put(k, v)
	v[1] = 20
	got, _ := x.Get(&name{"k"})
	if !slices.Equal(got, []int{1, 20, 3}) {
		t.Errorf("Get: a value of its own: %v", got)
	}
	got[2] = 30
	if key, value, _ := x.At(0); key != k || &value[0] != &v[0] || v[2] != 30 {
		t.Errorf("At: ones of its own: %v, %v", key, value)
	}
	for key, value := range x.All() {
		if key != k || &value[0] != &v[0] {
			t.Errorf("All: ones of its own: %v, %v", key, value)
		}
	}
}

func TestP6_4Values(t *testing.T) {
	x := keyed.New[[2]int, [2]int](2, func(a, b [2]int) int { return slices.Compare(a[:], b[:]) })
	k, v := [2]int{1, 2}, [2]int{3, 4}
	x.Put(k, v)
	k[0], v[0] = 9, 9
	if got, ok := x.Get([2]int{1, 2}); !ok || got != [2]int{3, 4} {
		t.Errorf("Get: %v", got)
	}
}

func TestP6_1TablesByThemselves(t *testing.T) {
	one, two := numbers(2), numbers(2)
	one.Put(1, 1)
	if two.Len() != 0 || told(two) != "" {
		t.Error("what was done to one is seen in the other")
	}
	two.Put(1, 2)
	two.Put(2, 2)
	want(t, one, "1:1 ")
	one.Drop(1)
	want(t, two, "1:2 2:2 ")
}

// model is a table told otherwise: by a map, which is sorted each time.
type model struct {
	most   int
	values map[int]int
}

func (m model) put(k, v int) api.Errno {
	if _, ok := m.values[k]; !ok && len(m.values) >= m.most {
		return api.ErrFull
	}
	m.values[k] = v
	return api.OK
}

func (m model) text() string {
	var keys []int
	for k := range m.values {
		keys = append(keys, k)
	}
	slices.Sort(keys)
	out := ""
	for _, k := range keys {
		out += fmt.Sprint(k, ":", m.values[k], " ")
	}
	return out
}

// Tables that keys come to and go from in all orders have what a model has.
func TestP6_1To6_3Model(t *testing.T) {
	for seed := range int64(300) {
		r := rand.New(rand.NewSource(seed))
		m := model{r.Intn(60), map[int]int{}}
		x, span, puts := numbers(m.most), 1+r.Intn(80), 1+r.Intn(9)
		for step := range 200 {
			k := r.Intn(span) - span/2
			_, there := m.values[k]
			switch {
			case r.Intn(10) < puts:
				if got, want := x.Put(k, step), m.put(k, step); got != want {
					t.Fatalf("seed %d: Put(%d): %v, not %v", seed, k, got, want)
				}
			default:
				if x.Drop(k) != there {
					t.Fatalf("seed %d: Drop(%d): %t", seed, k, !there)
				}
				delete(m.values, k)
			}
			k = r.Intn(span) - span/2
			value, there := m.values[k]
			if v, ok := x.Get(k); v != value || ok != there {
				t.Fatalf("seed %d: Get(%d): %d, %t", seed, k, v, ok)
			}
			if step%20 == 0 {
				want(t, x, m.text())
			}
		}
		want(t, x, m.text())
	}
}

// Many keys, as they come, are as soon put as few: a table that is one long line would take minutes.
func TestP6_2Many(t *testing.T) {
	const n = 200000
	r := rand.New(rand.NewSource(1))
	for name, key := range map[string]func(i int) int{
		"rising":  func(i int) int { return i },
		"falling": func(i int) int { return n - 1 - i },
		"turns":   func(i int) int { return i * 77773 % n },
	} {
		x := numbers(n)
		for i := range n {
			if e := x.Put(key(i), i); e != api.OK {
				t.Fatalf("%s: %v", name, e)
			}
		}
		if e := x.Put(n, 0); e != api.ErrFull || x.Len() != n {
			t.Errorf("%s: %v, Len %d", name, e, x.Len())
		}
		for range 1000 {
			i := r.Intn(n)
			if k, v, ok := x.At(i); k != i || key(v) != i || !ok {
				t.Errorf("%s: At(%d): %d, %d, %t", name, i, k, v, ok)
			}
		}
		for i := range n {
			if !x.Drop(key(i)) {
				t.Fatalf("%s: Drop(%d)", name, key(i))
			}
		}
		want(t, x, "")
	}
}

// drive does the calls that the numbers of seed choose, and tells what they answered.
func drive(seed int64, order func(r *rand.Rand, a, b int) int) string {
	r := rand.New(rand.NewSource(seed))
	x := keyed.New[int, int](r.Intn(40)-2, func(a, b int) int { return order(r, a, b) })
	out := ""
	for step := range 200 {
		k := r.Intn(30)
		switch r.Intn(5) {
		case 0, 1:
			out += fmt.Sprintln("Put", k, x.Put(k, step))
		case 2:
			out += fmt.Sprintln("Drop", k, x.Drop(k))
		case 3:
			v, ok := x.Get(k)
			out += fmt.Sprintln("Get", k, v, ok, x.Len(), x.Most())
		default:
			a, b, ok := x.At(k - 2)
			out += fmt.Sprintln("At", k-2, a, b, ok, told(x))
		}
	}
	return out
}

// P1: no call panics, and each ends, in whatever wrong order its keys are put; P2: two runs of the same calls give the same answers.
func TestP1P2Runs(t *testing.T) {
	for name, order := range map[string]func(r *rand.Rand, a, b int) int{
		"right":         func(_ *rand.Rand, a, b int) int { return a - b },
		"all are one":   func(*rand.Rand, int, int) int { return 0 },
		"always ahead":  func(*rand.Rand, int, int) int { return -1 },
		"always behind": func(*rand.Rand, int, int) int { return 1 },
		"the least":     func(*rand.Rand, int, int) int { return math.MinInt },
		"by chance":     func(r *rand.Rand, _, _ int) int { return r.Intn(3) - 1 },
		"seldom one":    func(r *rand.Rand, _, _ int) int { return r.Intn(9) - 4 },
		"no opposite":   func(_ *rand.Rand, a, b int) int { return (a*b+a)%3 - 1 },
	} {
		for seed := range int64(60) {
			if one, two := drive(seed, order), drive(seed, order); one != two {
				t.Fatalf("%s, seed %d: two runs differ:\n%s\n%s", name, seed, one, two)
			}
		}
	}
}
