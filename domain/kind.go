package domain

import (
	"slices"

	"selfstab/api"
)

// kind is what the variables of one type have in common: their least and their greatest value at a node, and which
// value they get when they are assigned one.
type kind struct {
	bounds func(g api.Graph, v int, x api.Var) (lo, hi int)
	clamp  func(value, lo, hi int) int
}

// kindOf returns the kind of a variable of a valid program.
func kindOf(x api.Var) kind {
	return [...]kind{
		api.Int:  {ofInt, nearest},
		api.Bool: {ofBool, nearest},
		api.Port: {ofPort, orNone},
	}[x.Kind]
}

func ofInt(g api.Graph, _ int, x api.Var) (lo, hi int) {
	return x.Lo, x.Hi + x.PerNode*len(g.IDs) + x.PerID*slices.Max(g.IDs)
}

func ofBool(api.Graph, int, api.Var) (lo, hi int) { return 0, 1 }

func ofPort(g api.Graph, v int, _ api.Var) (lo, hi int) { return none, len(g.Ports[v]) - 1 }

// none is the value of a Port that is no port.
const none = -1

// nearest returns the value from lo to hi that is nearest to value.
func nearest(value, lo, hi int) int { return min(max(value, lo), hi) }

// orNone returns value, or none if it is not from lo to hi.
func orNone(value, lo, hi int) int {
	if value < lo || value > hi {
		return none
	}
	return value
}
