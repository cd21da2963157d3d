package gate

import "hearth/api"

// The numbers by which one draw follows on another, if none has come.
const (
	factor = 6364136223846793005
	addend = 1442695040888963407
)

// draws are the numbers that were drawn and aren't used yet, and the last one that was.
type draws struct {
	list []uint64
	last uint64
}

// put takes a number that was drawn, if there is room.
func (d *draws) put(n uint64) {
	if len(d.list) < api.MaxDraws {
		d.list = append(d.list, n)
	}
}

// next gives a draw.
func (d *draws) next() uint64 {
	if len(d.list) > 0 {
		d.last, d.list = d.list[0], d.list[1:]
	} else {
		d.last = factor*d.last + addend
	}
	return d.last
}
