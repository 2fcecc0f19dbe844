package family_test

import (
	"math"
	"reflect"
	"slices"
	"strconv"
	"testing"

	"selfstab/api"
	"selfstab/family"
	"selfstab/graph"
)

// lists returns the graph with these neighbours of each node, in the order of the ports, with the identifiers and weights of P3.1.
func lists(neighbours ...[]int) api.Graph {
	var g api.Graph
	for v, near := range neighbours {
		var ports []api.Link
		for _, u := range near {
			ports = append(ports, api.Link{To: u, Weight: 1})
		}
		g.IDs, g.Ports = append(g.IDs, v), append(g.Ports, ports)
	}
	return g
}

// ascending returns the graph of n nodes in which near says of both ends whether they are neighbours, with ascending ports.
func ascending(n int, near func(v, u int) bool) api.Graph {
	neighbours := make([][]int, n)
	for v := range n {
		for u := range n {
			if near(v, u) {
				neighbours[v] = append(neighbours[v], u)
			}
		}
	}
	return lists(neighbours...)
}

// kite is a triangle of 0, 1, 2 with the node 3 at 2, and the node 4 alone; its identifiers, weights and ports are in no order.
func kite() api.Graph {
	return api.Graph{IDs: []int{9, 0, 255, 4, 100}, Ports: [][]api.Link{
		{{To: 2, Weight: 3}, {To: 1, Weight: 1}}, {{To: 0, Weight: 1}, {To: 2, Weight: 7}},
		{{To: 3, Weight: 15}, {To: 0, Weight: 3}, {To: 1, Weight: 7}}, {{To: 2, Weight: 15}}, nil,
	}}
}

// broken returns graphs that are not valid, of which some have the nodes 0 and 1 with a link and some without.
func broken() []api.Graph {
	var all []api.Graph
	change := func(f func(g *api.Graph)) {
		g := kite()
		f(&g)
		all = append(all, g)
	}
	change(func(g *api.Graph) { *g = api.Graph{} })
	change(func(g *api.Graph) { g.IDs = nil })
	change(func(g *api.Graph) { g.IDs = g.IDs[:4] })
	change(func(g *api.Graph) { g.Ports = nil })
	change(func(g *api.Graph) { g.Ports = g.Ports[:4] })
	change(func(g *api.Graph) { g.IDs[0] = 255 })
	change(func(g *api.Graph) { g.IDs[0] = api.MaxID + 1 })
	change(func(g *api.Graph) { g.IDs[0] = -1 })
	change(func(g *api.Graph) { g.Ports[1] = g.Ports[1][1:] })
	change(func(g *api.Graph) { g.Ports[0][1].Weight = 2 })
	change(func(g *api.Graph) { g.Ports[0][1].Weight, g.Ports[1][0].Weight = 0, 0 })
	change(func(g *api.Graph) { g.Ports[2][0].Weight, g.Ports[3][0].Weight = 16, 16 })
	change(func(g *api.Graph) { g.Ports[4] = []api.Link{{To: 4, Weight: 1}} })
	change(func(g *api.Graph) { g.Ports[4] = []api.Link{{To: 5, Weight: 1}} })
	change(func(g *api.Graph) { g.Ports[4] = []api.Link{{To: -1, Weight: 1}} })
	change(func(g *api.Graph) { g.Ports[3] = append(g.Ports[3], g.Ports[3]...) })
	return append(all, ascending(api.MaxNodes+1, func(v, u int) bool { return false }))
}

// clone returns a copy of g.
func clone(g api.Graph) api.Graph {
	c := api.Graph{IDs: slices.Clone(g.IDs)}
	for _, ports := range g.Ports {
		c.Ports = append(c.Ports, slices.Clone(ports))
	}
	return c
}

// equal reports whether two graphs are equal; nil and empty lists are (R3).
func equal(a, b api.Graph) bool {
	return slices.Equal(a.IDs, b.IDs) && slices.EqualFunc(a.Ports, b.Ports, slices.Equal[[]api.Link])
}

// result is what a function of the package returns.
type result struct {
	g api.Graph
	e api.Errno
}

func of(g api.Graph, e api.Errno) result { return result{g, e} }

// want checks that the result is this graph, and that it is valid.
func (r result) want(t *testing.T, name string, g api.Graph) {
	t.Helper()
	if r.e != api.OK || !equal(r.g, g) {
		t.Errorf("%s: %v, %d instead of %v", name, r.g, r.e, g)
	}
	if !graph.Valid(r.g) {
		t.Errorf("%s: not valid: %v", name, r.g)
	}
}

// wantError checks that the result is this error, without a graph (R5).
func (r result) wantError(t *testing.T, name string, e api.Errno) {
	t.Helper()
	if r.e != e || !reflect.DeepEqual(r.g, api.Graph{}) {
		t.Errorf("%s: %v, %d instead of error %d", name, r.g, r.e, e)
	}
}

// P3.1: small graphs, written out.
func TestFamilies(t *testing.T) {
	of(family.Ring(3)).want(t, "ring 3", lists([]int{2, 1}, []int{0, 2}, []int{1, 0}))
	of(family.Ring(4)).want(t, "ring 4", lists([]int{3, 1}, []int{0, 2}, []int{1, 3}, []int{2, 0}))
	of(family.Path(1)).want(t, "path 1", lists(nil))
	of(family.Path(2)).want(t, "path 2", lists([]int{1}, []int{0}))
	of(family.Path(4)).want(t, "path 4", lists([]int{1}, []int{0, 2}, []int{1, 3}, []int{2}))
	of(family.Star(1)).want(t, "star 1", lists(nil))
	of(family.Star(2)).want(t, "star 2", lists([]int{1}, []int{0}))
	of(family.Star(4)).want(t, "star 4", lists([]int{1, 2, 3}, []int{0}, []int{0}, []int{0}))
	of(family.Complete(1)).want(t, "complete 1", lists(nil))
	of(family.Complete(2)).want(t, "complete 2", lists([]int{1}, []int{0}))
	of(family.Complete(4)).want(t, "complete 4", lists([]int{1, 2, 3}, []int{0, 2, 3}, []int{0, 1, 3}, []int{0, 1, 2}))
	of(family.Grid(1, 1)).want(t, "grid 1, 1", lists(nil))
	of(family.Grid(2, 2)).want(t, "grid 2, 2", lists([]int{1, 2}, []int{0, 3}, []int{0, 3}, []int{1, 2}))
	of(family.Grid(3, 2)).want(t, "grid 3, 2", lists([]int{1, 3}, []int{0, 2, 4}, []int{1, 5}, []int{0, 4}, []int{1, 3, 5}, []int{2, 4}))
	of(family.Grid(2, 3)).want(t, "grid 2, 3", lists([]int{1, 2}, []int{0, 3}, []int{0, 3, 4}, []int{1, 2, 5}, []int{2, 5}, []int{3, 4}))
	of(family.Grid(3, 1)).want(t, "grid 3, 1", lists([]int{1}, []int{0, 2}, []int{1}))
	of(family.Grid(1, 3)).want(t, "grid 1, 3", lists([]int{1}, []int{0, 2}, []int{1}))
}

// P3.1: all numbers of nodes for which there is a graph.
func TestAllSizes(t *testing.T) {
	for n := 1; n <= api.MaxNodes; n++ {
		name := strconv.Itoa(n) + " nodes: "
		of(family.Path(n)).want(t, name+"path", ascending(n, func(v, u int) bool { return v == u+1 || u == v+1 }))
		of(family.Star(n)).want(t, name+"star", ascending(n, func(v, u int) bool { return v != u && (v == 0 || u == 0) }))
		of(family.Complete(n)).want(t, name+"complete", ascending(n, func(v, u int) bool { return v != u }))
		if n < 3 {
			continue
		}
		around := make([][]int, n)
		for v := range n {
			around[v] = []int{(v + n - 1) % n, (v + 1) % n}
		}
		of(family.Ring(n)).want(t, name+"ring", lists(around...))
	}
}

// P3.1: numbers of nodes for which there is none.
func TestNoSizes(t *testing.T) {
	for _, n := range []int{0, -1, -3, -api.MaxNodes, api.MaxNodes + 1, 2 * api.MaxNodes, 1 << 32, 1<<32 + 5, math.MinInt, math.MaxInt} {
		name := strconv.Itoa(n) + " nodes: "
		of(family.Ring(n)).wantError(t, name+"ring", api.ErrRange)
		of(family.Path(n)).wantError(t, name+"path", api.ErrRange)
		of(family.Star(n)).wantError(t, name+"star", api.ErrRange)
		of(family.Complete(n)).wantError(t, name+"complete", api.ErrRange)
	}
	of(family.Ring(1)).wantError(t, "ring 1", api.ErrRange)
	of(family.Ring(2)).wantError(t, "ring 2", api.ErrRange)
}

// P3.1: all grids, and sizes for which there is none.
func TestGrid(t *testing.T) {
	for w := -2; w <= api.MaxNodes+2; w++ {
		for h := -2; h <= api.MaxNodes+2; h++ {
			name := "grid " + strconv.Itoa(w) + ", " + strconv.Itoa(h)
			if w < 1 || h < 1 || w*h > api.MaxNodes {
				of(family.Grid(w, h)).wantError(t, name, api.ErrRange)
				continue
			}
			of(family.Grid(w, h)).want(t, name, ascending(w*h, func(v, u int) bool {
				x, y := v%w-u%w, v/w-u/w
				return x*x+y*y == 1
			}))
		}
	}
}

// P3.1: grids whose w h, as far as it fits an int, would be in range.
func TestGridOverflow(t *testing.T) {
	for _, x := range [][2]int{
		{math.MaxInt, math.MaxInt}, {math.MinInt, math.MinInt}, {math.MinInt, -1}, {math.MaxInt, 2}, {math.MaxInt, -1}, {1 << 32, 1 << 32}, {1<<62 + 1, 4},
		{1<<61 + 3, 8}, {1<<62 + 5, -4}, {1 << 62, 4}, {-2, -3}, {-1, -1}, {math.MaxInt, 1}, {math.MinInt, 1}, {math.MaxInt, 0}, {api.MaxNodes + 1, 1}, {api.MaxNodes, 2},
	} {
		name := "grid " + strconv.Itoa(x[0]) + ", " + strconv.Itoa(x[1])
		of(family.Grid(x[0], x[1])).wantError(t, name, api.ErrRange)
		of(family.Grid(x[1], x[0])).wantError(t, name+" in turn", api.ErrRange)
	}
}

// P3.1: trees of parents, written out, and the greatest ones.
func TestFromParents(t *testing.T) {
	of(family.FromParents([]int{-1})).want(t, "one node", lists(nil))
	of(family.FromParents([]int{-1, 0})).want(t, "two nodes", lists([]int{1}, []int{0}))
	of(family.FromParents([]int{-1, 0, 0, 1})).want(t, "four nodes", lists([]int{1, 2}, []int{0, 3}, []int{0}, []int{1}))
	of(family.FromParents([]int{-1, 0, 1, 0, 2})).want(t, "five nodes", lists([]int{1, 3}, []int{0, 2}, []int{1, 4}, []int{0}, []int{2}))
	star, path := slices.Repeat([]int{0}, api.MaxNodes), make([]int, api.MaxNodes)
	star[0] = -1
	for v := range path {
		path[v] = v - 1
	}
	of(family.FromParents(star)).want(t, "a star", ascending(api.MaxNodes, func(v, u int) bool { return v != u && (v == 0 || u == 0) }))
	of(family.FromParents(path)).want(t, "a path", ascending(api.MaxNodes, func(v, u int) bool { return v == u+1 || u == v+1 }))
	of(family.FromParents(append(star, 0))).wantError(t, "too many children", api.ErrRange)
	of(family.FromParents(append(path, 23))).wantError(t, "a path that is too long", api.ErrRange)
}

// P3.1: lists of parents of which there is no tree.
func TestNoParents(t *testing.T) {
	for i, parents := range [][]int{
		nil, {}, {0}, {1}, {-2}, {math.MinInt}, {math.MaxInt}, {0, 0}, {0, -1}, {1, 0}, {-2, 0}, {-1, -1}, {-1, 1}, {-1, 2}, {-1, 0, 2}, {-1, 0, 3}, {-1, 0, -1}, {-1, 2, 0},
		{-1, 0, 0, -1}, {-1, 0, 0, 3}, {-1, 0, 0, 4}, {-1, math.MinInt}, {-1, math.MaxInt}, {-1, 0, 1 << 32}, {0, 0, 1}, slices.Repeat([]int{-1}, api.MaxNodes+1), make([]int, 1<<16),
	} {
		of(family.FromParents(parents)).wantError(t, "list "+strconv.Itoa(i), api.ErrRange)
	}
}

// tuples calls look with all lists of n numbers from low to high.
func tuples(n, low, high int, look func(list []int)) {
	list := slices.Repeat([]int{low}, n)
	for {
		look(slices.Clone(list))
		at := 0
		for at < n && list[at] == high {
			list[at] = low
			at++
		}
		if at == n {
			return
		}
		list[at]++
	}
}

// P3.1: all lists of up to five parents that are nearly in range, compared with the definition.
func TestAllParents(t *testing.T) {
	for n := 1; n <= 5; n++ {
		tuples(n, -2, n, func(parents []int) {
			tree := parents[0] == -1
			for v := 1; v < n; v++ {
				tree = tree && 0 <= parents[v] && parents[v] <= v-1
			}
			got, e := family.FromParents(parents)
			if !tree {
				of(got, e).wantError(t, "parents", api.ErrRange)
				return
			}
			of(got, e).want(t, "parents", ascending(n, func(v, u int) bool { return v > 0 && parents[v] == u || u > 0 && parents[u] == v }))
			if !graph.Tree(got) {
				t.Errorf("%v is no tree", parents)
			}
		})
	}
}

// P3.2, written out.
func TestRelabel(t *testing.T) {
	g := kite()
	of(family.Relabel(g, []int{0, 1, 2, 3, 4})).want(t, "the same numbers", g)
	of(family.Relabel(g, []int{2, 0, 4, 1, 3})).want(t, "other numbers", api.Graph{IDs: []int{0, 4, 9, 100, 255}, Ports: [][]api.Link{
		{{To: 2, Weight: 1}, {To: 4, Weight: 7}}, {{To: 4, Weight: 15}}, {{To: 4, Weight: 3}, {To: 0, Weight: 1}}, nil,
		{{To: 1, Weight: 15}, {To: 2, Weight: 3}, {To: 0, Weight: 7}},
	}})
	one := api.Graph{IDs: []int{7}, Ports: make([][]api.Link, 1)}
	of(family.Relabel(one, []int{0})).want(t, "one node", one)
}

// P3.2 and the consequence: all permutations, one after the other with its inverse.
func TestRelabelBack(t *testing.T) {
	g := kite()
	tuples(len(g.IDs), 0, len(g.IDs)-1, func(perm []int) {
		inverse := slices.Repeat([]int{-1}, len(perm))
		for v, to := range perm {
			inverse[to] = v
		}
		moved, e := family.Relabel(g, perm)
		if slices.Contains(inverse, -1) {
			of(moved, e).wantError(t, "a number twice", api.ErrRange)
			return
		}
		for v, to := range perm {
			near := make([]api.Link, len(g.Ports[v]))
			for port, l := range g.Ports[v] {
				near[port] = api.Link{To: perm[l.To], Weight: l.Weight}
			}
			if e != api.OK || moved.IDs[to] != g.IDs[v] || !slices.Equal(moved.Ports[to], near) {
				t.Fatalf("%v: node %d: %v, %d", perm, v, moved, e)
			}
		}
		if !graph.Valid(moved) {
			t.Errorf("%v: not valid: %v", perm, moved)
		}
		of(family.Relabel(moved, inverse)).want(t, "back", g)
	})
}

// P3.2, P7: the greatest graph.
func TestRelabelMany(t *testing.T) {
	g, _ := family.Complete(api.MaxNodes)
	perm, inverse := make([]int, api.MaxNodes), make([]int, api.MaxNodes)
	for v := range perm {
		perm[v] = (5*v + 7) % api.MaxNodes
		inverse[perm[v]] = v
	}
	moved, e := family.Relabel(g, perm)
	if e != api.OK || !slices.Equal(moved.IDs, inverse) || moved.Ports[perm[23]][0] != (api.Link{To: perm[0], Weight: 1}) {
		t.Errorf("%v, %d", moved, e)
	}
	of(family.Relabel(moved, inverse)).want(t, "back", g)
}

// P3.2: lists that are no permutations.
func TestNoPermutation(t *testing.T) {
	for i, perm := range [][]int{
		nil, {}, {0}, {0, 1, 2, 3}, {1, 2, 3, 4}, {0, 1, 2, 3, 4, 5}, {5, 1, 2, 3, 4, 0}, {0, 1, 2, 3, 4, 4}, {0, 1, 2, 3, 3}, {1, 1, 2, 3, 4}, {0, 1, 2, 3, 5}, {1, 2, 3, 4, 5},
		{-1, 1, 2, 3, 4}, {0, 1, 2, 3, -1}, {0, 1, 2, 3, 32}, {32, 1, 2, 3, 4}, {0, 1, 2, 3, 36}, {0, 1, 2, 3, 4 + 1<<32}, {0, 1, 2, 3, math.MaxInt}, {math.MinInt, 1, 2, 3, 4}, make([]int, 1<<16),
	} {
		of(family.Relabel(kite(), perm)).wantError(t, "list "+strconv.Itoa(i), api.ErrRange)
	}
}

// P3.2
func TestIdentify(t *testing.T) {
	for _, ids := range [][]int{{0, 1, 2, 3, 4}, {255, 254, 0, 100, 7}, {9, 0, 255, 4, 100}, {100, 4, 255, 0, 9}} {
		named := kite()
		named.IDs = ids
		of(family.Identify(kite(), ids)).want(t, "five nodes", named)
	}
	for id := range api.MaxID + 1 {
		of(family.Identify(lists(nil), []int{id})).want(t, "one node", api.Graph{IDs: []int{id}, Ports: make([][]api.Link, 1)})
	}
	path, _ := family.Path(api.MaxNodes)
	named := clone(path)
	for v := range named.IDs {
		named.IDs[v] = api.MaxID - 3*v
	}
	of(family.Identify(path, named.IDs)).want(t, "MaxNodes nodes", named)
}

// P3.2: lists that are no identifiers.
func TestNoIdentifiers(t *testing.T) {
	for i, ids := range [][]int{
		nil, {}, {0}, {0, 1, 2, 3}, {0, 1, 2, 3, 4, 5}, {0, 1, 2, 3, 3}, {7, 1, 2, 3, 7}, {-1, 1, 2, 3, 4}, {0, 1, 2, 3, -1}, {256, 1, 2, 3, 4}, {0, 1, 2, 3, 256},
		{0, 1, 2, 3, math.MaxInt}, {math.MinInt, 1, 2, 3, 4}, {0, 1, 2, 3, 4 + 1<<32}, make([]int, 1<<16),
	} {
		of(family.Identify(kite(), ids)).wantError(t, "list "+strconv.Itoa(i), api.ErrRange)
	}
}

// P3.3, written out: the other ports keep their order, and the ones that are added are the last of both nodes.
func TestCutAndConnect(t *testing.T) {
	g, less, more := kite(), kite(), kite()
	less.Ports[2] = []api.Link{{To: 3, Weight: 15}, {To: 1, Weight: 7}}
	less.Ports[0] = []api.Link{{To: 1, Weight: 1}}
	of(family.Cut(g, 0, 2)).want(t, "cut 0, 2", less)
	of(family.Cut(g, 2, 0)).want(t, "cut 2, 0", less)
	more.Ports[3] = []api.Link{{To: 2, Weight: 15}, {To: 0, Weight: 4}}
	more.Ports[0] = []api.Link{{To: 2, Weight: 3}, {To: 1, Weight: 1}, {To: 3, Weight: 4}}
	of(family.Connect(g, 0, 3, 4)).want(t, "connect 0, 3", more)
	of(family.Connect(g, 3, 0, 4)).want(t, "connect 3, 0", more)
	of(family.Cut(lists([]int{1}, []int{0}), 1, 0)).want(t, "cut the only link", lists(nil, nil))
	of(family.Connect(lists(nil, nil), 1, 0, 1)).want(t, "connect two nodes", lists([]int{1}, []int{0}))
	again := kite()
	again.Ports[0] = []api.Link{{To: 1, Weight: 1}, {To: 2, Weight: 8}}
	again.Ports[2] = []api.Link{{To: 3, Weight: 15}, {To: 1, Weight: 7}, {To: 0, Weight: 8}}
	of(family.Connect(less, 0, 2, 8)).want(t, "connect what was cut", again)
}

// P3.3 and the consequence: all pairs of nodes and of numbers beside them, with all weights and those beside them.
func TestAllPairs(t *testing.T) {
	g := kite()
	for a := -1; a <= len(g.IDs); a++ {
		for b := -1; b <= len(g.IDs); b++ {
			name := strconv.Itoa(a) + ", " + strconv.Itoa(b)
			nodes := min(a, b) >= 0 && max(a, b) < len(g.IDs)
			linked := nodes && slices.ContainsFunc(g.Ports[a], func(l api.Link) bool { return l.To == b })
			cut := clone(g)
			if !linked {
				of(family.Cut(g, a, b)).wantError(t, "cut "+name, api.ErrRange)
			} else {
				for v, ports := range cut.Ports {
					cut.Ports[v] = slices.DeleteFunc(ports, func(l api.Link) bool { return v == a && l.To == b || v == b && l.To == a })
				}
				of(family.Cut(g, a, b)).want(t, "cut "+name, cut)
			}
			for weight := -1; weight <= api.MaxWeight+1; weight++ {
				checkConnect(t, g, a, b, weight, nodes && a != b && !linked && weight >= 1 && weight <= api.MaxWeight)
			}
		}
	}
}

// checkConnect checks a call of Connect that is an error, or that Cut undoes.
func checkConnect(t *testing.T, g api.Graph, a, b, weight int, good bool) {
	name := "connect " + strconv.Itoa(a) + ", " + strconv.Itoa(b) + ", " + strconv.Itoa(weight)
	got, e := family.Connect(g, a, b, weight)
	if !good {
		of(got, e).wantError(t, name, api.ErrRange)
		return
	}
	more := clone(g)
	more.Ports[a] = append(more.Ports[a], api.Link{To: b, Weight: weight})
	more.Ports[b] = append(more.Ports[b], api.Link{To: a, Weight: weight})
	of(got, e).want(t, name, more)
	of(family.Cut(got, a, b)).want(t, name+" and cut", g)
	of(family.Cut(got, b, a)).want(t, name+" and cut in turn", g)
}

// P3.3: numbers far away from those of nodes and weights.
func TestFarNumbers(t *testing.T) {
	for _, far := range []int{-2, -32, 24, 31, 32, 33, 64, 1 << 32, 1<<32 + 1, math.MinInt, math.MaxInt} {
		for _, near := range []int{0, 1, far} {
			of(family.Cut(kite(), near, far)).wantError(t, "cut", api.ErrRange)
			of(family.Cut(kite(), far, near)).wantError(t, "cut", api.ErrRange)
			of(family.Connect(kite(), near, far, 1)).wantError(t, "connect", api.ErrRange)
			of(family.Connect(kite(), far, near, 1)).wantError(t, "connect", api.ErrRange)
		}
		of(family.Connect(kite(), 0, 3, far)).wantError(t, "weight", api.ErrRange)
	}
}

// P3.2, P3.3: graphs that are not valid; their error comes first.
func TestNotValid(t *testing.T) {
	for i, g := range broken() {
		name := "graph " + strconv.Itoa(i)
		for _, list := range [][]int{nil, {0, 1, 2, 3, 4}, {0}, {0, 0}, {-1, 1, 2, 3, 4}, {256}} {
			of(family.Relabel(g, list)).wantError(t, name, api.ErrGraph)
			of(family.Identify(g, list)).wantError(t, name, api.ErrGraph)
		}
		for _, ends := range [][2]int{{0, 1}, {0, 3}, {0, 4}, {2, 2}, {-1, 0}, {0, 5}, {math.MaxInt, math.MinInt}} {
			of(family.Cut(g, ends[0], ends[1])).wantError(t, name, api.ErrGraph)
			for _, weight := range []int{0, 1, 15, 16} {
				of(family.Connect(g, ends[0], ends[1], weight)).wantError(t, name, api.ErrGraph)
			}
		}
	}
}

// calls are calls of all functions, of which none is an error.
func calls(g api.Graph, list []int) []result {
	return []result{
		of(family.Ring(5)), of(family.Path(5)), of(family.Star(5)), of(family.Complete(5)), of(family.Grid(2, 3)), of(family.FromParents([]int{-1, 0, 0, 1, 0})),
		of(family.Relabel(g, list)), of(family.Identify(g, list)), of(family.Cut(g, 2, 0)), of(family.Connect(g, 4, 2, 5)), of(family.Connect(g, 0, 3, 1)),
	}
}

// crowded returns g with lists that lie behind one another in the same memory, with numbers in their spare room.
func crowded(g api.Graph) (api.Graph, []api.Link, []int) {
	var all []api.Link
	for _, ports := range g.Ports {
		all = append(all, ports...)
		all = append(all, api.Link{To: 77, Weight: -77})
	}
	c, from := api.Graph{}, 0
	for _, ports := range g.Ports {
		c.Ports = append(c.Ports, all[from:from+len(ports)])
		from += len(ports) + 1
	}
	ids := append(slices.Clone(g.IDs), 77, 78)
	c.IDs = ids[:len(g.IDs)]
	return c, all, ids
}

// R2, R6: no function changes what it is given, not even in the spare room of a list, and the next call returns the same.
func TestArgumentsStay(t *testing.T) {
	g, all, ids := crowded(kite())
	spare := []int{2, 0, 4, 1, 3, 77, 78}
	oldAll, oldIDs, oldSpare := slices.Clone(all), slices.Clone(ids), slices.Clone(spare)
	first, second := calls(g, spare[:5]), calls(g, spare[:5])
	for i, r := range calls(kite(), []int{2, 0, 4, 1, 3}) {
		first[i].want(t, "call "+strconv.Itoa(i), r.g)
		second[i].want(t, "call again "+strconv.Itoa(i), r.g)
	}
	family.Relabel(g, spare[:4])
	family.Identify(g, spare[:6])
	family.FromParents(spare)
	family.Cut(g, 0, 3)
	family.Connect(g, 0, 2, 1)
	if !slices.Equal(all, oldAll) || !slices.Equal(ids, oldIDs) || !slices.Equal(spare, oldSpare) || !equal(g, kite()) {
		t.Error("an argument has changed")
	}
}

// R2: what is written into a result is seen neither in an argument nor in another list or result.
func TestResultsAreNew(t *testing.T) {
	g, list := kite(), []int{2, 0, 4, 1, 3}
	results, same := calls(g, list), calls(g, list)
	for i, r := range results {
		for v := range r.g.Ports {
			before := clone(r.g)
			for port := range r.g.Ports[v] {
				r.g.Ports[v][port] = api.Link{To: -9, Weight: -9}
			}
			full := append(r.g.Ports[v], make([]api.Link, cap(r.g.Ports[v])-len(r.g.Ports[v]))...)
			clear(full)
			before.Ports[v] = r.g.Ports[v]
			if !equal(r.g, before) {
				t.Errorf("call %d: the ports of node %d share memory with others", i, v)
			}
		}
		for v := range r.g.IDs {
			r.g.IDs[v] = -9
		}
		clear(append(r.g.IDs, make([]int, cap(r.g.IDs)-len(r.g.IDs))...))
		clear(r.g.Ports)
	}
	if !equal(g, kite()) || !slices.Equal(list, []int{2, 0, 4, 1, 3}) {
		t.Error("a result shares memory with an argument")
	}
	for i, r := range calls(kite(), []int{2, 0, 4, 1, 3}) {
		same[i].want(t, "call "+strconv.Itoa(i), r.g)
	}
}

// The consequence: changes one after the other lead from a graph to another and back.
func TestManyChanges(t *testing.T) {
	full, _ := family.Complete(6)
	empty := lists(nil, nil, nil, nil, nil, nil)
	g := clone(full)
	for a := range 6 {
		for b := a + 1; b < 6; b++ {
			var e api.Errno
			if g, e = family.Cut(g, b, a); e != api.OK || !graph.Valid(g) {
				t.Fatalf("cut %d, %d: %v, %d", a, b, g, e)
			}
		}
	}
	of(g, api.OK).want(t, "all links cut", empty)
	for a := range 6 {
		for b := a + 1; b < 6; b++ {
			var e api.Errno
			if g, e = family.Connect(g, b, a, 1); e != api.OK || !graph.Valid(g) {
				t.Fatalf("connect %d, %d: %v, %d", a, b, g, e)
			}
		}
	}
	of(g, api.OK).want(t, "all links added in ascending order", full)
}
