// Package graph is layer 1: see shared/doc/01-graph.md.
package graph

import (
	"slices"

	"selfstab/api"
)

// Valid reports whether g is a graph.
func Valid(g api.Graph) bool {
	n := len(g.Ports)
	if n < 1 || n > api.MaxNodes || len(g.IDs) != n || !different(g.IDs) {
		return false
	}
	for v, ports := range g.Ports {
		if !sound(ports, v, n) {
			return false
		}
	}
	return agree(g)
}

// different reports whether ids are different numbers that identifiers can be.
func different(ids []int) bool {
	var taken [api.MaxID + 1]bool
	for _, id := range ids {
		if id < 0 || id > api.MaxID || taken[id] {
			return false
		}
		taken[id] = true
	}
	return true
}

// sound reports whether the ports of node v, taken by themselves, can be those of a graph of n nodes.
func sound(ports []api.Link, v, n int) bool {
	near := uint32(1) << v // a link to v itself is refused like a second one to a neighbour
	for _, l := range ports {
		if l.To < 0 || l.To >= n || near>>l.To&1 == 1 || l.Weight < 1 || l.Weight > api.MaxWeight {
			return false
		}
		near |= 1 << l.To
	}
	return true
}

// agree reports whether each link has two ends, with the same weight. The ports are sound.
// It uses a table because nearly every function of all layers asks whether its graph is valid.
func agree(g api.Graph) bool {
	var weights [api.MaxNodes][api.MaxNodes]uint8
	for v, ports := range g.Ports {
		for _, l := range ports {
			weights[v][l.To] = uint8(l.Weight)
		}
	}
	for v, ports := range g.Ports {
		for _, l := range ports {
			if weights[l.To][v] != uint8(l.Weight) {
				return false
			}
		}
	}
	return true
}

// link is a link by its two ends, so that it is the same one from both of them.
type link struct {
	low, high int
}

// linksOf returns the links of a valid graph. Both ends name a link, and it is in the map once.
func linksOf(g api.Graph) map[link]bool {
	all := make(map[link]bool)
	for v, ports := range g.Ports {
		for _, l := range ports {
			all[link{min(v, l.To), max(v, l.To)}] = true
		}
	}
	return all
}

// Size returns the numbers of nodes and links.
func Size(g api.Graph) (nodes, links int) {
	if !Valid(g) {
		return 0, 0
	}
	return len(g.Ports), len(linksOf(g))
}

// has reports whether v is a node of g.
func has(g api.Graph, v int) bool { return v >= 0 && v < len(g.Ports) }

// Degree returns the number of ports of a node.
func Degree(g api.Graph, v int) int {
	if !Valid(g) || !has(g, v) {
		return 0
	}
	return len(g.Ports[v])
}

// Back returns the port by which the neighbour at a port sees node v, or -1.
func Back(g api.Graph, v, port int) int {
	if !Valid(g) || !has(g, v) || port < 0 || port >= len(g.Ports[v]) {
		return -1
	}
	near := g.Ports[g.Ports[v][port].To]
	return slices.IndexFunc(near, func(l api.Link) bool { return l.To == v })
}

// Neighbours returns the nodes that have a neighbour in set.
func Neighbours(g api.Graph, set uint32) uint32 {
	if !Valid(g) {
		return 0
	}
	return around(g, set)
}

// around returns the nodes of a valid graph that have a neighbour in set.
func around(g api.Graph, set uint32) uint32 {
	var found uint32
	for l := range linksOf(g) {
		if set>>l.low&1 == 1 {
			found |= 1 << l.high
		}
		if set>>l.high&1 == 1 {
			found |= 1 << l.low
		}
	}
	return found
}

// Independent reports whether no two nodes of set are neighbours.
func Independent(g api.Graph, set uint32) bool {
	return Valid(g) && set>>len(g.Ports) == 0 && set&around(g, set) == 0
}

// Distances returns the distances of all nodes from a node; -1 for a node that cannot be reached.
func Distances(g api.Graph, from int) []int {
	if !Valid(g) || !has(g, from) {
		return nil
	}
	return distances(g, from)
}

// distances returns the distances from a node of a valid graph.
func distances(g api.Graph, from int) []int {
	far := slices.Repeat([]int{-1}, len(g.Ports))
	far[from] = 0
	queue := []int{from}
	for len(queue) > 0 {
		v := queue[0]
		queue = queue[1:]
		for _, l := range g.Ports[v] {
			if far[l.To] < 0 {
				far[l.To] = far[v] + 1
				queue = append(queue, l.To)
			}
		}
	}
	return far
}

// Connected reports whether all nodes can be reached from node 0.
func Connected(g api.Graph) bool {
	return Valid(g) && !slices.Contains(distances(g, 0), -1)
}

// Eccentricity returns the greatest distance from node v, or -1.
func Eccentricity(g api.Graph, v int) int {
	if !Connected(g) || !has(g, v) {
		return -1
	}
	return slices.Max(distances(g, v))
}

// Diameter returns the greatest eccentricity, or -1.
func Diameter(g api.Graph) int {
	if !Connected(g) {
		return -1
	}
	greatest := 0
	for v := range g.Ports {
		greatest = max(greatest, slices.Max(distances(g, v)))
	}
	return greatest
}

// Tree reports whether g is a tree.
func Tree(g api.Graph) bool {
	nodes, links := Size(g)
	return Connected(g) && links == nodes-1
}
