package stream

import "hearth/api"

// timer tells when what isn't acknowledged is sent anew; off when it is zero.
type timer struct {
	on    bool
	at    uint64
	tries int
}

// set lets it wait, twice as long with each try.
func (t *timer) set(now uint64) { t.on, t.at = true, now+api.FirstWait<<t.tries }

// due tells whether it has waited long enough.
func (t *timer) due(now uint64) bool { return t.on && t.at <= now }
