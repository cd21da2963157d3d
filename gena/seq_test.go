package gena

import (
	"math"
	"testing"

	"hearth/api"
)

// So many notes as let the numbers begin anew take too long to be told.
func TestP22_5SeqWraps(t *testing.T) {
	const host = 0xc0a80107
	s := New(1)
	r := api.Request{Fields: []api.Field{{Name: "nt", Value: "upnp:event"}, {Name: "callback", Value: "<http://192.168.1.7/>"}}}
	if status, _ := s.Subscribe(r, host, 0, [2]uint64{}); status != 200 {
		t.Fatal(status)
	}
	s.list[0].Seq = math.MaxUint32 - 1
	for i, want := range []uint32{math.MaxUint32 - 1, math.MaxUint32, 1, 2} {
		n, ok := s.Next(uint64(i), []api.Arg{{Name: "A", Value: string([]byte{byte('a' + i)})}})
		if !ok || n.Seq != want {
			t.Errorf("%d, %t, not %d", n.Seq, ok, want)
		}
		s.Done(n.SID, true, uint64(i))
	}
}
