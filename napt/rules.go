package napt

import (
	"slices"

	"hearth/api"
)

// rules are what lets in what nobody has asked for.
type rules struct {
	maps []api.Mapping
	all  []api.Mapping // those, and behind them the forwards, as mappings of any sender
}

func newRules(maps []api.Mapping, forwards []api.Forward) rules {
	all := slices.Clone(maps)
	for _, f := range forwards {
		all = append(all, api.Mapping{Proto: f.Proto, Ext: f.Port, To: f.To, Host: f.Host})
	}
	return rules{maps: all[:len(maps)], all: all}
}

// has tells whether a rule has a port, for whatever sender.
func (r rules) has(proto byte, port uint16) bool {
	return slices.ContainsFunc(r.all, func(m api.Mapping) bool {
		return m.Proto == proto && m.Ext == port
	})
}

// mapping gives that of a port for what comes from a remote address.
func (r rules) mapping(proto byte, port uint16, remote api.Addr) (api.Mapping, bool) {
	for _, sender := range [...]api.Addr{remote, 0} {
		for _, m := range r.maps {
			if m.Proto == proto && m.Ext == port && m.Remote == sender {
				return m, true
			}
		}
	}
	return api.Mapping{}, false
}

// leads tells whether a rule lets the other side of a flow send to the own one.
func leads(m api.Mapping, f api.Flow) bool {
	return m.Proto == f.Proto && m.Host == f.Src && m.To == f.From && (m.Remote == 0 || m.Remote == f.Dst)
}

// port gives the port of the rule that leads to the own side of a flow.
func (r rules) port(f api.Flow) (uint16, bool) {
	for _, m := range r.all {
		if leads(m, f) {
			return m.Ext, true
		}
	}
	return 0, false
}

// keep tells whether one of a port does.
func (r rules) keep(f api.Flow, ext uint16) bool {
	return slices.ContainsFunc(r.all, func(m api.Mapping) bool {
		return m.Ext == ext && leads(m, f)
	})
}
