package maps

import (
	"math"
	"testing"

	"hearth/api"
)

// So many changes as let it begin anew take too long to be made.
func TestP20_1UpdateWraps(t *testing.T) {
	const host = 0xc0a80107
	s := New(api.Config{LanAddr: 0xc0a80101, LanBits: 24, MaxMaps: 1})
	s.update = math.MaxUint32 - 1
	e := api.Entry{Mapping: api.Mapping{Proto: api.TCP, Ext: 80, To: 80, Host: host}}
	for _, want := range []uint32{math.MaxUint32, 0, 1} {
		if code := s.Add(host, e, 0, 0); code != 0 || s.Update() != want {
			t.Errorf("%d: %d, not %d", code, s.Update(), want)
		}
	}
}
