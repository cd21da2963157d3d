package igd

import (
	"slices"

	"hearth/api"
	"hearth/value"
)

// The service's states, of which there is one of each.
const (
	routed    = "IP_Routed"
	connected = "Connected"
)

// action is one of the service's: the arguments that it takes, what it does.
type action struct {
	name  string
	takes []string
	do    func(request) ([]api.Arg, int)
}

// actions gives all that the service can be asked for, in order.
func actions() []action {
	key := []string{argRemote, argExternal, argProtocol}
	whole := slices.Concat(key, []string{argInternal, argClient, argEnabled, argWords, argLease})
	ports := []string{argStart, argEnd, argProtocol, argManage}
	return []action{
		{"SetConnectionType", []string{argType}, setType},
		{"GetConnectionTypeInfo", nil, typeInfo},
		{"RequestConnection", nil, nothing},
		{"RequestTermination", nil, refuse},
		{"ForceTermination", nil, refuse},
		{"GetStatusInfo", nil, statusInfo},
		{"GetNATRSIPStatus", nil, natStatus},
		{"GetExternalIPAddress", nil, externalAddress},
		{"GetGenericPortMappingEntry", []string{argIndex}, genericEntry},
		{"GetSpecificPortMappingEntry", key, specificEntry},
		{"AddPortMapping", whole, add},
		{"AddAnyPortMapping", whole, addAny},
		{"DeletePortMapping", key, remove},
		{"DeletePortMappingRange", ports, removeRange},
		{"GetListOfPortMappings", slices.Concat(ports, []string{argCount}), listPorts},
	}
}

// find gives the action of a name.
func find(name string) (action, bool) {
	for _, a := range actions() {
		if a.name == name {
			return a, true
		}
	}
	return action{}, false
}

func setType(r request) ([]api.Arg, int) {
	if r.text(argType) != routed {
		return nil, api.BadArgs
	}
	return nil, 0
}

func typeInfo(request) ([]api.Arg, int) {
	return args(argType, routed, "NewPossibleConnectionTypes", routed), 0
}

func nothing(request) ([]api.Arg, int) { return nil, 0 }

func refuse(request) ([]api.Arg, int) { return nil, api.NotAuthorized }

func statusInfo(r request) ([]api.Arg, int) {
	return args("NewConnectionStatus", connected, "NewLastConnectionError", "ERROR_NONE", "NewUptime", value.Text(r.Now)), 0
}

func natStatus(request) ([]api.Arg, int) {
	return args("NewRSIPAvailable", value.Yes(false), "NewNATEnabled", value.Yes(true)), 0
}

func externalAddress(r request) ([]api.Arg, int) {
	return args("NewExternalIPAddress", addressText(r.Conf.WanAddr)), 0
}

func genericEntry(r request) ([]api.Arg, int) {
	e, code := r.Set.At(r.number(argIndex))
	return slices.Concat(from(e), to(e), about(e, r.Now)), code
}

func specificEntry(r request) ([]api.Arg, int) {
	e, code := r.Set.Find(r.entry().Mapping)
	return slices.Concat(to(e), about(e, r.Now)), code
}

func add(r request) ([]api.Arg, int) {
	return nil, r.Set.Add(r.Who, r.entry(), r.number(argLease), r.Now)
}

func addAny(r request) ([]api.Arg, int) {
	port, code := r.Set.AddAny(r.Who, r.entry(), r.number(argLease), r.Now)
	return args("NewReservedPort", value.Text(uint64(port))), code
}

func remove(r request) ([]api.Arg, int) {
	return nil, r.Set.Delete(r.Who, r.entry().Mapping)
}

func removeRange(r request) ([]api.Arg, int) {
	return nil, r.Set.DeleteRange(r.Who, r.proto(), r.port(argStart), r.port(argEnd))
}

func listPorts(r request) ([]api.Arg, int) {
	all, code := r.Set.Range(r.proto(), r.port(argStart), r.port(argEnd), r.number(argCount))
	return args("NewPortListing", listing(all, r.Now)), code
}
