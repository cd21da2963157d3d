package xml

import (
	"slices"

	"hearth/api"
)

// through goes through a tree as it is, each element ahead of its own ones.
func through(e api.Element) func(func(int, api.Element) bool) {
	return func(tell func(int, api.Element) bool) { walk(e, 0, tell) }
}

// walk tells whether it has come to the tree's end.
func walk(e api.Element, deep int, tell func(int, api.Element) bool) bool {
	if !tell(deep, e) {
		return false
	}
	for _, kid := range e.Kids {
		if !walk(kid, deep+1, tell) {
			return false
		}
	}
	return true
}

// copyOf gives an element of its own memory.
func copyOf(e api.Element) api.Element {
	e.Attrs = slices.Clone(e.Attrs)
	var kids []api.Element
	for _, kid := range e.Kids {
		kids = append(kids, copyOf(kid))
	}
	e.Kids = kids
	return e
}
