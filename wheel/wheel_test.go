package wheel_test

import (
	"cmp"
	"fmt"
	"math"
	"math/rand"
	"slices"
	"testing"

	"hearth/wheel"
)

type words = wheel.Wheel[string]

// The signatures that the chapter lists.
var (
	_ func() *words                                = wheel.New[string]
	_ func(*words, string, uint64)                 = (*words).Set
	_ func(*words, string) bool                    = (*words).Cancel
	_ func(*words, string) (uint64, bool)          = (*words).At
	_ func(*words) (uint64, bool)                  = (*words).Next
	_ func(*words, uint64) func(func(string) bool) = (*words).Due
	_ func(*words) int                             = (*words).Len
)

// due gives what Due tells, as a text.
func due[K cmp.Ordered](w *wheel.Wheel[K], now uint64) string {
	out := ""
	w.Due(now)(func(k K) bool {
		out += fmt.Sprint(k, " ")
		return true
	})
	return out
}

// wantDue holds what is due against what should be, and how many keys stay against how many should.
func wantDue[K cmp.Ordered](t *testing.T, w *wheel.Wheel[K], now uint64, text string, left int) {
	t.Helper()
	if got := due(w, now); got != text {
		t.Errorf("Due(%d): %s, not %s", now, got, text)
	}
	if w.Len() != left {
		t.Errorf("Len behind Due(%d): %d, not %d", now, w.Len(), left)
	}
}

func wantNext[K cmp.Ordered](t *testing.T, w *wheel.Wheel[K], at uint64, ok bool) {
	t.Helper()
	if got, is := w.Next(); got != at || is != ok {
		t.Errorf("Next: %d, %t, not %d, %t", got, is, at, ok)
	}
}

func wantAt[K cmp.Ordered](t *testing.T, w *wheel.Wheel[K], k K, at uint64, ok bool) {
	t.Helper()
	if got, is := w.At(k); got != at || is != ok {
		t.Errorf("At(%v): %d, %t, not %d, %t", k, got, is, at, ok)
	}
}

func TestP8_1New(t *testing.T) {
	w := wheel.New[string]()
	wantAt(t, w, "", 0, false)
	wantAt(t, w, "a", 0, false)
	wantNext(t, w, 0, false)
	if w.Cancel("") || w.Cancel("a") {
		t.Error("Cancel of none")
	}
	wantDue(t, w, 0, "", 0)
	wantDue(t, w, math.MaxUint64, "", 0)
}

func TestP8_1SetCancelAt(t *testing.T) {
	w := wheel.New[string]()
	w.Set("a", 5)
	w.Set("", 0)
	w.Set("b", math.MaxUint64)
	wantAt(t, w, "a", 5, true)
	wantAt(t, w, "", 0, true) // it ends at the second 0: that is not none
	wantAt(t, w, "b", math.MaxUint64, true)
	wantAt(t, w, "c", 0, false)
	wantAt(t, w, "ab", 0, false)
	if w.Len() != 3 || w.Cancel("c") || w.Cancel("ab") || w.Len() != 3 {
		t.Error("Cancel of none")
	}
	if !w.Cancel("a") || w.Cancel("a") || w.Len() != 2 {
		t.Error("Cancel")
	}
	wantAt(t, w, "a", 0, false)
	if !w.Cancel("") || w.Cancel("") || w.Len() != 1 {
		t.Error("Cancel at 0")
	}
	wantNext(t, w, math.MaxUint64, true)
	w.Set("a", 9)
	wantAt(t, w, "a", 9, true)
	wantDue(t, w, 9, "a ", 1)
	if w.Cancel("a") {
		t.Error("Cancel of what is no more to end")
	}
	wantAt(t, w, "a", 0, false)
}

// Of two ends of one key the elder is forgotten, whether it is earlier, later, or the same.
func TestP8_1SetAgain(t *testing.T) {
	for _, c := range []struct{ elder, younger uint64 }{{5, 9}, {9, 5}, {7, 7}, {0, 7}, {7, 0}, {math.MaxUint64, 7}} {
		w := wheel.New[int]()
		w.Set(1, c.elder)
		w.Set(2, 20)
		w.Set(1, c.younger)
		wantAt(t, w, 1, c.younger, true)
		wantNext(t, w, c.younger, true)
		if w.Len() != 2 {
			t.Errorf("Len: %d", w.Len())
		}
		if c.younger > 0 {
			wantDue(t, w, c.younger-1, "", 2)
		}
		wantDue(t, w, c.younger, "1 ", 1)
		wantDue(t, w, math.MaxUint64, "2 ", 0)
	}
	w := wheel.New[int]()
	w.Set(1, 5)
	w.Set(1, 9)
	if !w.Cancel(1) || w.Cancel(1) || w.Len() != 0 {
		t.Error("Cancel of one set twice")
	}
	wantNext(t, w, 0, false)
	wantDue(t, w, math.MaxUint64, "", 0)
}

func TestP8_2Next(t *testing.T) {
	w := wheel.New[string]()
	for _, c := range []struct {
		k        string
		at, next uint64
	}{{"b", 9, 9}, {"a", 12, 9}, {"c", 9, 9}, {"d", 4, 4}, {"d", 30, 9}, {"b", 31, 9}, {"c", 32, 12}, {"e", 0, 0}} {
		w.Set(c.k, c.at)
		wantNext(t, w, c.next, true)
	}
	for _, c := range []struct {
		k    string
		next uint64
	}{{"e", 12}, {"b", 12}, {"a", 30}, {"d", 32}} {
		w.Cancel(c.k)
		wantNext(t, w, c.next, true)
	}
	w.Cancel("c")
	wantNext(t, w, 0, false)
	w.Set("z", math.MaxUint64)
	wantNext(t, w, math.MaxUint64, true)
	w.Set("a", math.MaxUint64)
	due(w, math.MaxUint64)
	wantNext(t, w, 0, false)
}

// The chapter's example.
func TestP8_3Example(t *testing.T) {
	w := wheel.New[int]()
	w.Set(7, 5)
	w.Set(3, 5)
	w.Set(9, 4)
	wantDue(t, w, 5, "9 3 7 ", 0)
}

func TestP8_3Due(t *testing.T) {
	w := wheel.New[string]()
	for i, k := range []string{"d", "a", "", "ab", "b", "c"} {
		w.Set(k, uint64(10-2*(i%3)))
	}
	wantDue(t, w, 5, "", 6)
	wantDue(t, w, 6, " c ", 4)
	wantDue(t, w, 6, "", 4)
	wantDue(t, w, 7, "", 4)
	wantDue(t, w, 0, "", 4) // an earlier second
	wantNext(t, w, 8, true)
	w.Set("x", 1)
	wantDue(t, w, math.MaxUint64, "x a b ab d ", 0)
	w.Set("x", 0)
	w.Set("y", math.MaxUint64)
	wantDue(t, w, 0, "x ", 1)
	wantDue(t, w, math.MaxUint64-1, "", 1)
	wantDue(t, w, math.MaxUint64, "y ", 0)
}

// When a key is told it is no more to end; those behind it still are.
func TestP8_3DueTellsWhatIsGone(t *testing.T) {
	w := wheel.New[int]()
	for k := range 5 {
		w.Set(k, uint64(k))
	}
	told := 0
	for k := range w.Due(3) {
		wantAt(t, w, k, 0, false)
		wantAt(t, w, k+1, uint64(k+1), true)
		wantNext(t, w, uint64(k+1), true)
		told++
		if w.Len() != 5-told {
			t.Errorf("Len at %d: %d", k, w.Len())
		}
	}
	wantDue(t, w, 9, "4 ", 0)
}

func TestP8_3DueEnds(t *testing.T) {
	for stop := range 6 {
		w := wheel.New[int]()
		for k := range 6 {
			w.Set(k, 7)
		}
		calls := 0
		w.Due(7)(func(k int) bool {
			calls++
			return k != stop
		})
		if calls != stop+1 || w.Len() != 5-stop {
			t.Errorf("told to end at %d: %d calls, Len %d", stop, calls, w.Len())
		}
		wantAt(t, w, stop, 0, false) // it was told
		rest := ""
		for k := stop + 1; k < 6; k++ {
			wantAt(t, w, k, 7, true)
			rest += fmt.Sprint(k, " ")
		}
		wantDue(t, w, 7, rest, 0)
	}
}

// Nothing ends as long as nobody goes through them, and they may be gone through again.
func TestP8_3DueAgain(t *testing.T) {
	w := wheel.New[int]()
	w.Set(1, 5)
	w.Set(2, 6)
	through := w.Due(5)
	if w.Len() != 2 {
		t.Error("Due alone takes them")
	}
	w.Set(3, 4)
	for _, want := range []int{3, 1} {
		for k := range through {
			if k != want {
				t.Errorf("%d, not %d", k, want)
			}
			break
		}
	}
	for k := range through {
		t.Errorf("%d is due", k)
	}
	w.Set(1, 5)
	for k := range through {
		if k != 1 {
			t.Errorf("%d is due", k)
		}
	}
	wantDue(t, w, 6, "2 ", 0)
}

// own is a type of its own, ordered as what is under it.
type own uint8

func TestP8_3Ordered(t *testing.T) {
	small := wheel.New[own]()
	for _, k := range []own{255, 0, 128} {
		small.Set(k, 1)
	}
	wantDue(t, small, 1, "0 128 255 ", 0)
	below := wheel.New[int64]()
	for _, k := range []int64{0, math.MaxInt64, -1, math.MinInt64} {
		below.Set(k, 1)
	}
	wantDue(t, below, 1, "-9223372036854775808 -1 0 9223372036854775807 ", 0)
	texts := wheel.New[string]()
	for _, k := range []string{"b", "\xff", "ab", "", "a", "B", "\x00"} {
		texts.Set(k, 1)
	}
	wantDue(t, texts, 1, " \x00 B a ab b \xff ", 0)
}

// A float that is no number is a key as others are.
func TestP8_1Floats(t *testing.T) {
	w := wheel.New[float64]()
	w.Set(math.NaN(), 3)
	w.Set(math.Inf(1), 5)
	w.Set(0, 5)
	w.Set(math.Inf(-1), 5)
	w.Set(math.NaN(), 5)
	w.Set(math.Copysign(0, -1), 5)
	wantAt(t, w, math.NaN(), 5, true)
	if w.Len() != 4 {
		t.Errorf("Len: %d", w.Len())
	}
	if !w.Cancel(0) || w.Cancel(0) {
		t.Error("Cancel(0)")
	}
	wantNext(t, w, 5, true)
	wantDue(t, w, 5, "NaN -Inf +Inf ", 0)
	if w.Cancel(math.NaN()) {
		t.Error("Cancel(NaN)")
	}
}

func TestP8_1WheelsByThemselves(t *testing.T) {
	one, two := wheel.New[int](), wheel.New[int]()
	one.Set(1, 5)
	wantNext(t, two, 0, false)
	two.Set(1, 6)
	two.Set(2, 4)
	wantAt(t, one, 1, 5, true)
	wantDue(t, two, 9, "2 1 ", 0)
	wantDue(t, one, 9, "1 ", 0)
}

// model is a wheel told otherwise: by a map, which is gone through each time.
type model map[int]uint64

// next gives the key that ends first.
func (m model) next() (key int, at uint64, ok bool) {
	for k, s := range m {
		if !ok || s < at || s == at && k < key {
			key, at, ok = k, s, true
		}
	}
	return key, at, ok
}

// due gives so many of the keys that have ended, at most, and takes them out.
func (m model) due(now uint64, most int) []int {
	var out []int
	for len(out) < most {
		k, at, ok := m.next()
		if !ok || at > now {
			break
		}
		delete(m, k)
		out = append(out, k)
	}
	return out
}

// Wheels of keys that come and go in all orders tell what a model tells.
func TestP8_1To8_3Model(t *testing.T) {
	for seed := range int64(200) {
		r := rand.New(rand.NewSource(seed))
		w, m, span := wheel.New[int](), model{}, 1+r.Intn(50)
		for range 150 {
			k, at := r.Intn(span), uint64(r.Intn(20))
			_, there := m[k]
			switch r.Intn(5) {
			case 0, 1, 2:
				w.Set(k, at)
				m[k] = at
			case 3:
				if w.Cancel(k) != there {
					t.Fatalf("seed %d: Cancel(%d): %t", seed, k, !there)
				}
				delete(m, k)
			default:
				most := 1 + r.Intn(6)
				var got []int
				for k := range w.Due(at) {
					if got = append(got, k); len(got) == most {
						break
					}
				}
				if want := m.due(at, most); !slices.Equal(got, want) {
					t.Fatalf("seed %d: Due(%d): %v, not %v", seed, at, got, want)
				}
			}
			_, least, some := m.next()
			wantNext(t, w, least, some)
			k = r.Intn(span)
			at, there = m[k]
			wantAt(t, w, k, at, there)
			if w.Len() != len(m) {
				t.Fatalf("seed %d: Len: %d, not %d", seed, w.Len(), len(m))
			}
		}
	}
}

// drive does the calls that the numbers of seed choose, and tells what they answered.
func drive(seed int64) string {
	r := rand.New(rand.NewSource(seed))
	w, out := wheel.New[string](), ""
	for range 200 {
		k, at := fmt.Sprint(r.Intn(40)), r.Uint64()>>r.Intn(65)
		switch r.Intn(4) {
		case 0, 1:
			w.Set(k, at)
		case 2:
			out += fmt.Sprintln("Cancel", k, w.Cancel(k))
		default:
			out += fmt.Sprintln("Due", at, due(w, at))
		}
		next, some := w.Next()
		end, there := w.At(k)
		out += fmt.Sprintln(next, some, end, there, w.Len())
	}
	return out
}

// P1: no call panics; P2: two runs of the same calls give the same answers.
func TestP1P2Runs(t *testing.T) {
	for seed := range int64(200) {
		if one, two := drive(seed), drive(seed); one != two {
			t.Fatalf("seed %d: two runs differ:\n%s\n%s", seed, one, two)
		}
	}
}
