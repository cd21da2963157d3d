package napt

import (
	"hearth/api"
	"hearth/flow"
	"hearth/track"
	"hearth/trans"
)

const question = 8 // a message's type

// load is what a packet carries, and who has sent it.
type load struct {
	flow   api.Flow
	kind   int
	sender api.Addr // of an error maybe none of its flow's ends
	flags  byte     // of a segment
	asks   bool     // It is a question.
}

// look tells what a packet carries.
func look(p api.Packet) (load, api.Errno) {
	f, kind, err := flow.Of(p)
	if err != api.OK {
		return load{}, err
	}
	l := load{flow: f, kind: kind, sender: p.Src}
	// What flow has read is right, so there is no error.
	switch {
	case p.Proto == api.TCP:
		s, _ := trans.ReadTCP(p.Src, p.Dst, p.Body)
		l.flags = s.Flags
	case kind == api.CarriesQuery:
		// By the flow alone a question with the id 0 is one with its answer.
		m, _ := trans.ReadICMP(p.Body)
		l.asks = m.Type == question
	}
	return l, api.OK
}

// answers tells whether it is a question's answer.
func (l load) answers() bool { return l.kind == api.CarriesQuery && !l.asks }

// begins tells whether there may be a new session of it.
func (l load) begins() bool { return l.flow.Proto != api.TCP || track.Begins(l.flags) }
