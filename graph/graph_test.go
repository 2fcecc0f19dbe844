package graph_test

import (
	"math"
	"reflect"
	"slices"
	"testing"

	"selfstab/api"
	"selfstab/graph"
)

// build returns a graph: for each node its identifier, and then pairs of a neighbour and a weight.
func build(nodes ...[]int) api.Graph {
	var g api.Graph
	for _, l := range nodes {
		var ports []api.Link
		for i := 1; i+1 < len(l); i += 2 {
			ports = append(ports, api.Link{To: l[i], Weight: l[i+1]})
		}
		g.IDs, g.Ports = append(g.IDs, l[0]), append(g.Ports, ports)
	}
	return g
}

// example is the graph of two nodes of the chapter.
func example() api.Graph { return build([]int{7, 1, 5}, []int{3, 0, 5}) }

// apart is a path 1 - 3 - 2, the pair 0 - 5, and node 4 alone; the ports of node 3 are not in ascending order.
func apart() api.Graph {
	return build([]int{10, 5, 2}, []int{11, 3, 15}, []int{0, 3, 1}, []int{255, 2, 1, 1, 15}, []int{12}, []int{13, 0, 2})
}

// lonely returns n nodes without ports.
func lonely(n int) api.Graph {
	g := api.Graph{Ports: make([][]api.Link, n)}
	for v := range n {
		g.IDs = append(g.IDs, 9*v)
	}
	return g
}

// linked returns n nodes in which each pair for which joined is true has a link.
func linked(n int, joined func(a, b int) bool) api.Graph {
	g := lonely(n)
	for v := range n {
		for u := range n {
			if u != v && joined(min(u, v), max(u, v)) {
				g.Ports[v] = append(g.Ports[v], api.Link{To: u, Weight: 1 + (u+v)%api.MaxWeight})
			}
		}
		if v%2 == 1 {
			slices.Reverse(g.Ports[v])
		}
	}
	return g
}

func complete(n int) api.Graph { return linked(n, func(a, b int) bool { return true }) }

func path(n int) api.Graph { return linked(n, func(a, b int) bool { return b == a+1 }) }

func ring(n int) api.Graph {
	return linked(n, func(a, b int) bool { return b == a+1 || a == 0 && b == n-1 })
}

func star(n int) api.Graph { return linked(n, func(a, b int) bool { return a == 0 }) }

// small calls look with every graph of n nodes.
func small(n int, look func(g api.Graph)) {
	for set := range 1 << (n * (n - 1) / 2) {
		look(linked(n, func(a, b int) bool { return set>>(b*(b-1)/2+a)&1 == 1 }))
	}
}

// clone returns a copy of g.
func clone(g api.Graph) api.Graph {
	c := api.Graph{IDs: slices.Clone(g.IDs)}
	for _, l := range g.Ports {
		c.Ports = append(c.Ports, slices.Clone(l))
	}
	return c
}

// invalid returns graphs that break one condition of P1.1 each.
func invalid() map[string]api.Graph {
	few, more := example(), example()
	few.IDs = few.IDs[:1]
	more.IDs = append(more.IDs, 9)
	same := complete(4)
	same.IDs[3] = same.IDs[0]
	return map[string]api.Graph{
		"no nodes":                    {},
		"no nodes, empty lists":       {IDs: []int{}, Ports: [][]api.Link{}},
		"too many nodes":              complete(api.MaxNodes + 1),
		"an identifier is missing":    few,
		"one identifier too many":     more,
		"identifiers without nodes":   {IDs: []int{1}},
		"nodes without identifiers":   {Ports: make([][]api.Link, 2)},
		"equal identifiers":           same,
		"an identifier below 0":       build([]int{-1}),
		"an identifier above MaxID":   build([]int{api.MaxID + 1}),
		"a huge identifier":           build([]int{math.MaxInt}),
		"a loop":                      build([]int{7, 0, 5}),
		"a loop seen twice":           build([]int{7, 0, 5, 0, 5}),
		"a loop beside a link":        build([]int{7, 1, 5}, []int{3, 0, 5, 1, 5}),
		"parallel links":              build([]int{7, 1, 5, 1, 5}, []int{3, 0, 5, 0, 5}),
		"a link twice at one end":     build([]int{7, 1, 5, 1, 5}, []int{3, 0, 5}),
		"other weights twice":         build([]int{7, 1, 5, 1, 4}, []int{3, 0, 4, 0, 5}),
		"a neighbour that is missing": build([]int{7, 2, 5}, []int{3, 0, 5}),
		"a neighbour below 0":         build([]int{7, 1, 5}, []int{3, 0, 5, -1, 5}),
		"a neighbour far below 0":     build([]int{7, math.MinInt, 5}),
		"a neighbour far away":        build([]int{7, 1, 5}, []int{3, 0, 5, math.MaxInt, 5}),
		"the weight 0":                build([]int{7, 1, 0}, []int{3, 0, 0}),
		"a weight below 0":            build([]int{7, 1, -1}, []int{3, 0, -1}),
		"a weight above MaxWeight":    build([]int{7, 1, api.MaxWeight + 1}, []int{3, 0, api.MaxWeight + 1}),
		"weights equal in one byte":   build([]int{7, 1, 5}, []int{3, 0, 5 + 256}),
		"different weights":           build([]int{7, 1, 5}, []int{3, 0, 4}),
		"a link with one end":         build([]int{7, 1, 5}, []int{3}),
		"only the other end":          build([]int{7}, []int{3, 0, 5}),
		"three ends in a circle":      build([]int{0, 1, 1}, []int{1, 2, 1}, []int{2, 0, 1}),
	}
}

// valid returns graphs that are.
func valid() map[string]api.Graph {
	return map[string]api.Graph{
		"the example":             example(),
		"not connected":           apart(),
		"one node":                lonely(1),
		"one node, an empty list": {IDs: []int{0}, Ports: [][]api.Link{{}}},
		"the greatest identifier": build([]int{api.MaxID}),
		"the least weight":        build([]int{0, 1, 1}, []int{1, 0, 1}),
		"the greatest weight":     build([]int{0, 1, api.MaxWeight}, []int{1, 0, api.MaxWeight}),
		"all nodes and no links":  lonely(api.MaxNodes),
		"all nodes and all links": complete(api.MaxNodes),
		"a ring":                  ring(5),
		"a star":                  star(6),
		"a path":                  path(api.MaxNodes),
		"identifiers crosswise":   build([]int{1, 1, 1}, []int{0, 0, 1}),
	}
}

// P1.1
func TestValid(t *testing.T) {
	for name, g := range valid() {
		if !graph.Valid(g) {
			t.Errorf("%s: not valid", name)
		}
	}
	for name, g := range invalid() {
		if graph.Valid(g) {
			t.Errorf("%s: valid", name)
		}
	}
}

// P1.1: whatever is changed at one end of a link of a valid graph, the graph is not valid any more.
func TestValidNeedsBothEnds(t *testing.T) {
	for name, g := range valid() {
		for v := range g.Ports {
			for port := range g.Ports[v] {
				cut, heavy := clone(g), clone(g)
				cut.Ports[v] = slices.Delete(cut.Ports[v], port, port+1)
				heavy.Ports[v][port].Weight = heavy.Ports[v][port].Weight%api.MaxWeight + 1
				if graph.Valid(cut) || graph.Valid(heavy) {
					t.Fatalf("%s: valid with another end of port %d of node %d", name, port, v)
				}
			}
		}
	}
}

// P1.2 to P1.4 for graphs that are not valid.
func TestNothingOfInvalid(t *testing.T) {
	for name, g := range invalid() {
		if nodes, links := graph.Size(g); nodes != 0 || links != 0 {
			t.Errorf("%s: size %d, %d", name, nodes, links)
		}
		if graph.Degree(g, 0) != 0 || graph.Back(g, 0, 0) != -1 || graph.Neighbours(g, math.MaxUint32) != 0 {
			t.Errorf("%s: there are ports", name)
		}
		if graph.Independent(g, 0) || graph.Connected(g) || graph.Tree(g) {
			t.Errorf("%s: a property holds", name)
		}
		if len(graph.Distances(g, 0)) != 0 || graph.Eccentricity(g, 0) != -1 || graph.Diameter(g) != -1 {
			t.Errorf("%s: there are distances", name)
		}
	}
}

// P1.2
func TestSize(t *testing.T) {
	for name, want := range map[string][2]int{
		"the example": {2, 1}, "not connected": {6, 3}, "one node": {1, 0}, "all nodes and no links": {24, 0},
		"all nodes and all links": {24, 276}, "a ring": {5, 5}, "a star": {6, 5}, "a path": {24, 23},
	} {
		if nodes, links := graph.Size(valid()[name]); nodes != want[0] || links != want[1] {
			t.Errorf("%s: size %d, %d", name, nodes, links)
		}
	}
}

// P1.2
func TestDegree(t *testing.T) {
	g := apart()
	for v, want := range []int{1, 1, 1, 2, 0, 1} {
		if got := graph.Degree(g, v); got != want {
			t.Errorf("degree of %d: %d", v, got)
		}
	}
	for _, v := range []int{-1, 6, api.MaxNodes, math.MinInt, math.MaxInt} {
		if got := graph.Degree(g, v); got != 0 {
			t.Errorf("degree of %d, which is no node: %d", v, got)
		}
	}
	if got := graph.Degree(complete(api.MaxNodes), 23); got != 23 {
		t.Errorf("degree of the last node of a complete graph: %d", got)
	}
}

// P1.2
func TestBack(t *testing.T) {
	g := apart()
	for _, x := range [][3]int{{0, 0, 0}, {5, 0, 0}, {1, 0, 1}, {2, 0, 0}, {3, 0, 0}, {3, 1, 0}} {
		if got := graph.Back(g, x[0], x[1]); got != x[2] {
			t.Errorf("back of port %d of node %d: %d", x[1], x[0], got)
		}
	}
	for _, x := range [][2]int{{0, 1}, {0, -1}, {4, 0}, {-1, 0}, {6, 0}, {3, 2}, {3, math.MaxInt}, {3, math.MinInt}, {math.MaxInt, 0}, {math.MinInt, 0}} {
		if got := graph.Back(g, x[0], x[1]); got != -1 {
			t.Errorf("back of port %d of node %d, which there is not: %d", x[1], x[0], got)
		}
	}
}

// P1.2 and the consequence: Back connects both ends of each link.
func TestBackInBothDirections(t *testing.T) {
	for name, g := range valid() {
		for v, ports := range g.Ports {
			for port, l := range ports {
				back := graph.Back(g, v, port)
				if back < 0 || g.Ports[l.To][back].To != v || graph.Back(g, l.To, back) != port {
					t.Errorf("%s: back of port %d of node %d: %d", name, port, v, back)
				}
			}
		}
	}
}

// P1.3
func TestNeighbours(t *testing.T) {
	g := apart()
	for set, want := range map[uint32]uint32{
		0: 0, 1 << 0: 1 << 5, 1 << 3: 1<<1 | 1<<2, 1 << 4: 0, 1<<1 | 1<<2: 1 << 3, 1<<1 | 1<<3: 1<<1 | 1<<2 | 1<<3,
		1 << 6: 0, 1 << 31: 0, 1<<31 | 1<<24 | 1<<5: 1 << 0, math.MaxUint32: 1<<0 | 1<<1 | 1<<2 | 1<<3 | 1<<5,
	} {
		if got := graph.Neighbours(g, set); got != want {
			t.Errorf("neighbours of %b: %b", set, got)
		}
	}
	if got := graph.Neighbours(complete(api.MaxNodes), 1<<23); got != 1<<23-1 {
		t.Errorf("neighbours of the last node of a complete graph: %b", got)
	}
	if got := graph.Neighbours(lonely(1), 1); got != 0 {
		t.Errorf("neighbours of a single node: %b", got)
	}
}

// P1.3, R9
func TestIndependent(t *testing.T) {
	g := apart()
	for set, want := range map[uint32]bool{
		0: true, 1: true, 1 << 3: true, 1<<0 | 1<<5: false, 1<<1 | 1<<2: true, 1<<1 | 1<<3: false, 1<<2 | 1<<3: false,
		1<<0 | 1<<1 | 1<<2 | 1<<4: true, 1<<6 - 1: false, 1 << 6: false, 1 << 24: false, 1 << 31: false, 1<<31 | 1: false,
	} {
		if got := graph.Independent(g, set); got != want {
			t.Errorf("independent %b: %v", set, got)
		}
	}
	if full := lonely(api.MaxNodes); !graph.Independent(full, 1<<24-1) || graph.Independent(full, 1<<24) {
		t.Error("all nodes, and a bit behind them")
	}
}

// P1.4
func TestDistances(t *testing.T) {
	g := apart()
	for from, want := range [][]int{{0, -1, -1, -1, -1, 1}, {-1, 0, 2, 1, -1, -1}, {-1, 2, 0, 1, -1, -1}, {-1, 1, 1, 0, -1, -1}, {-1, -1, -1, -1, 0, -1}, {1, -1, -1, -1, -1, 0}} {
		if got := graph.Distances(g, from); !slices.Equal(got, want) {
			t.Errorf("distances from %d: %v", from, got)
		}
	}
	for _, from := range []int{-1, 6, api.MaxNodes, math.MinInt, math.MaxInt} {
		if got := graph.Distances(g, from); len(got) != 0 {
			t.Errorf("distances from %d, which is no node: %v", from, got)
		}
	}
	if got := graph.Distances(lonely(1), 0); !slices.Equal(got, []int{0}) {
		t.Errorf("distances of a single node: %v", got)
	}
	if got := graph.Distances(path(api.MaxNodes), 0); got[23] != 23 {
		t.Errorf("the end of a path: %v", got)
	}
}

// P1.4
func TestConnected(t *testing.T) {
	for _, x := range []struct {
		name     string
		g        api.Graph
		joined   bool
		diameter int
		tree     bool
	}{
		{"one node", lonely(1), true, 0, true},
		{"the example", example(), true, 1, true},
		{"two nodes apart", lonely(2), false, -1, false},
		{"three parts", apart(), false, -1, false},
		{"as many links as a tree, but two parts", build([]int{0, 1, 1, 2, 1}, []int{1, 0, 1, 2, 1}, []int{2, 0, 1, 1, 1}, []int{3}), false, -1, false},
		{"a ring of five", ring(5), true, 2, false},
		{"a ring of six", ring(6), true, 3, false},
		{"a star", star(6), true, 2, true},
		{"a path", path(7), true, 6, true},
		{"a long path", path(api.MaxNodes), true, 23, true},
		{"a complete graph", complete(api.MaxNodes), true, 1, false},
	} {
		if got := graph.Connected(x.g); got != x.joined {
			t.Errorf("%s: connected %v", x.name, got)
		}
		if got := graph.Diameter(x.g); got != x.diameter {
			t.Errorf("%s: diameter %d", x.name, got)
		}
		if got := graph.Tree(x.g); got != x.tree {
			t.Errorf("%s: tree %v", x.name, got)
		}
	}
}

// P1.4
func TestEccentricity(t *testing.T) {
	for v, want := range []int{4, 3, 2, 3, 4} {
		if got := graph.Eccentricity(path(5), v); got != want {
			t.Errorf("eccentricity of %d: %d", v, got)
		}
	}
	for _, v := range []int{-1, 5, math.MinInt, math.MaxInt} {
		if got := graph.Eccentricity(path(5), v); got != -1 {
			t.Errorf("eccentricity of %d, which is no node: %d", v, got)
		}
	}
	if got := graph.Eccentricity(apart(), 3); got != -1 {
		t.Errorf("eccentricity in a graph that is not connected: %d", got)
	}
}

// spans returns all distances by the rule of Floyd and Warshall, with n for no path.
func spans(g api.Graph) [][]int {
	n := len(g.Ports)
	far := make([][]int, n)
	for v, ports := range g.Ports {
		far[v] = slices.Repeat([]int{n}, n)
		far[v][v] = 0
		for _, l := range ports {
			far[v][l.To] = 1
		}
	}
	for k := range n {
		for v := range n {
			for u := range n {
				far[v][u] = min(far[v][u], far[v][k]+far[k][u])
			}
		}
	}
	return far
}

// P1.2 to P1.4 against plain definitions, on all graphs of up to five nodes.
func TestAllSmallGraphs(t *testing.T) {
	for n := 1; n <= 5; n++ {
		small(n, func(g api.Graph) {
			if !graph.Valid(g) {
				t.Fatalf("not valid: %v", g)
			}
			checkSets(t, g)
			checkDistances(t, g)
		})
	}
}

func checkSets(t *testing.T, g api.Graph) {
	for set := range uint32(1) << len(g.Ports) {
		var near uint32
		for v, ports := range g.Ports {
			if slices.ContainsFunc(ports, func(l api.Link) bool { return set>>l.To&1 == 1 }) {
				near |= 1 << v
			}
		}
		if got := graph.Neighbours(g, set); got != near {
			t.Fatalf("neighbours of %b: %b in %v", set, got, g)
		}
		if got := graph.Independent(g, set); got != (near&set == 0) {
			t.Fatalf("independent %b: %v in %v", set, got, g)
		}
	}
}

func checkDistances(t *testing.T, g api.Graph) {
	n, ends, diameter := len(g.Ports), 0, 0
	far := spans(g)
	joined := !slices.Contains(far[0], n)
	for v := range n {
		ends += len(g.Ports[v])
		diameter = max(diameter, slices.Max(far[v]))
		eccentricity := slices.Max(far[v])
		for u, d := range far[v] {
			if d == n {
				far[v][u] = -1
			}
		}
		if got := graph.Distances(g, v); !slices.Equal(got, far[v]) {
			t.Fatalf("distances from %d: %v in %v", v, got, g)
		}
		if !joined {
			eccentricity = -1
		}
		if got := graph.Eccentricity(g, v); got != eccentricity {
			t.Fatalf("eccentricity of %d: %d in %v", v, got, g)
		}
	}
	if !joined {
		diameter = -1
	}
	nodes, links := graph.Size(g)
	if nodes != n || links != ends/2 || graph.Connected(g) != joined || graph.Diameter(g) != diameter || graph.Tree(g) != (joined && ends == 2*(n-1)) {
		t.Fatalf("size %d, %d, connected %v, diameter %d, tree %v of %v", nodes, links, graph.Connected(g), graph.Diameter(g), graph.Tree(g), g)
	}
}

// all calls every function of the package.
func all(g api.Graph, v, port int, set uint32) []any {
	nodes, links := graph.Size(g)
	return []any{graph.Valid(g), nodes, links, graph.Degree(g, v), graph.Back(g, v, port), graph.Neighbours(g, set), graph.Independent(g, set),
		graph.Distances(g, v), graph.Connected(g), graph.Eccentricity(g, v), graph.Diameter(g), graph.Tree(g)}
}

// P1, R1, R2, R6: no call panics or changes its arguments, and the next call returns the same.
func TestArgumentsStay(t *testing.T) {
	graphs := valid()
	for name, g := range invalid() {
		graphs[name] = g
	}
	for name, g := range graphs {
		before := clone(g)
		for _, v := range []int{math.MinInt, -1, 0, 1, 23, 24, math.MaxInt} {
			for _, set := range []uint32{0, 1, 5, 1 << 24, math.MaxUint32} {
				first := all(g, v, v, set)
				if second := all(g, v, v, set); !reflect.DeepEqual(first, second) {
					t.Errorf("%s: %v and then %v", name, first, second)
				}
			}
		}
		if !slices.Equal(g.IDs, before.IDs) || !slices.EqualFunc(g.Ports, before.Ports, slices.Equal[[]api.Link]) {
			t.Errorf("%s: changed to %v", name, g)
		}
	}
}

// R2: results are new memory, and what lies behind a slice does not matter.
func TestMemory(t *testing.T) {
	g := path(3)
	first := graph.Distances(g, 0)
	first[2] = 99
	if got := graph.Distances(g, 0); !slices.Equal(got, []int{0, 1, 2}) {
		t.Errorf("distances after a result was written: %v", got)
	}
	spare := []api.Link{{To: 1, Weight: 5}, {To: 77, Weight: -1}}
	wide := api.Graph{IDs: []int{7, 3, 7}[:2], Ports: [][]api.Link{spare[:1], {{To: 0, Weight: 5}}, spare}[:2]}
	if !graph.Tree(wide) || graph.Diameter(wide) != 1 || spare[1].To != 77 {
		t.Error("the spare room of a slice was looked at or written")
	}
}

// R3: nil and empty lists of ports are equal.
func TestNilPorts(t *testing.T) {
	nils, empties := lonely(3), lonely(3)
	for v := range empties.Ports {
		empties.Ports[v] = []api.Link{}
	}
	for _, v := range []int{0, 2, 3} {
		if a, b := all(nils, v, 0, 5), all(empties, v, 0, 5); !reflect.DeepEqual(a, b) {
			t.Errorf("nil: %v, empty: %v", a, b)
		}
	}
}
