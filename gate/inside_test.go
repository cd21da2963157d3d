package gate

import (
	"math"
	"testing"

	"hearth/api"
)

// No test from without could wait for the last second.
func TestP26_1LastSecond(t *testing.T) {
	c := api.Config{
		LanAddr: 0xc0a80101, WanAddr: 0xcb007105, LanBits: 24, MaxSessions: 8, MaxMaps: 4, MaxConns: 3, MaxSubs: 2,
		UUID: "00000000-1111-2222-3333-444444444444",
	}
	for _, x := range []struct{ now, n, want uint64 }{
		{1<<62 - 5, 4, 1<<62 - 1}, {1<<62 - 5, 5, 1 << 62}, {1<<62 - 5, 6, 1 << 62}, {1<<62 - 5, math.MaxUint64, 1 << 62}, {1 << 62, 0, 1 << 62}, {1 << 62, 1, 1 << 62},
		{1<<62 - 1<<32 - 1, math.MaxUint64, 1<<62 - 1}, {1<<62 - 1<<32, 1 << 32, 1 << 62},
	} {
		g, _ := New(c)
		g.now = x.now
		if out := g.Step(api.Event{Kind: api.EvTick, N: x.n}); g.Now() != x.want || len(out) != 6 {
			t.Errorf("%d and %d: %d, not %d, %d frames", x.now, x.n, g.Now(), x.want, len(out))
		}
	}
}
