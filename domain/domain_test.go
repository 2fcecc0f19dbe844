package domain_test

import (
	"fmt"
	"math"
	"reflect"
	"slices"
	"strconv"
	"strings"
	"testing"

	"selfstab/api"
	"selfstab/domain"
	"selfstab/family"
	"selfstab/graph"
	"selfstab/program"
	"selfstab/types"
)

// far are numbers that are no node, no variable, and in no range of values that a program has.
var far = []int{math.MinInt, math.MinInt32, -1 << 30, -99999, 99999, 1 << 30, math.MaxInt32, 1 << 32, 1<<32 + 1, math.MaxInt - 1, math.MaxInt}

// prog returns a program with the variables x0, x1 and so on, of the types that a text gives between semicolons.
func prog(t *testing.T, kinds string) api.Program {
	t.Helper()
	text := "program p;"
	for i, kind := range strings.Split(kinds, ";") {
		text += "var x" + strconv.Itoa(i) + " : " + kind + ";"
	}
	p, at, e := program.Parse(text)
	if e != api.OK {
		t.Fatalf("%s: %d at %d", text, e, at)
	}
	return p
}

// tree is a program of two rules with a variable of each type.
func tree(t *testing.T) api.Program {
	t.Helper()
	p, at, e := program.Parse(`program tree;
var d : 0 .. 2 * n + 1;
var b : bool;
var p : port;
rule top: root && (d != 0 || p != none) -> d := 0, p := none;
rule low: !root && d != min(q.d) + 1 -> d := min(q.d) + 1, b := some(q.b), p := first(q.d + 1 == d);
`)
	if e != api.OK {
		t.Fatalf("%d at %d", e, at)
	}
	return p
}

// vars returns a program of these variables, and names them.
func vars(all ...api.Var) api.Program {
	p := api.Program{Name: "p"}
	for i, x := range all {
		x.Name = "x" + strconv.Itoa(i)
		p.Vars = append(p.Vars, x)
	}
	return p
}

// sure returns a graph that family builds.
func sure(g api.Graph, e api.Errno) api.Graph {
	if e != api.OK || !graph.Valid(g) {
		panic(e)
	}
	return g
}

func path(n int) api.Graph { return sure(family.Path(n)) }

func star(n int) api.Graph { return sure(family.Star(n)) }

// named returns a path of nodes with these identifiers.
func named(ids ...int) api.Graph { return sure(family.Identify(path(len(ids)), ids)) }

// parted returns a graph that is not connected: a path of three nodes and one of two.
func parted() api.Graph { return sure(family.Cut(path(5), 2, 3)) }

// graphs are graphs of many forms, with identifiers of many sizes.
func graphs() []api.Graph {
	return []api.Graph{
		path(1), named(1), named(255), path(2), named(3, 7), named(7, 3), path(3), named(0, 255, 1), path(24),
		star(4), star(24), sure(family.Complete(6)), sure(family.Complete(24)), sure(family.Ring(3)), sure(family.Grid(3, 4)),
		sure(family.FromParents([]int{-1, 0, 0, 1, 1, 4})), parted(), sure(family.Cut(path(2), 0, 1)), sure(family.Cut(named(20, 4), 0, 1)),
	}
}

// copiedGraph returns a graph that shares no memory with g.
func copiedGraph(g api.Graph) api.Graph {
	g.IDs, g.Ports = slices.Clone(g.IDs), slices.Clone(g.Ports)
	for v, ports := range g.Ports {
		g.Ports[v] = slices.Clone(ports)
	}
	return g
}

// copied returns a program that shares no memory with p.
func copied(p api.Program) api.Program {
	p.Vars, p.Rules = slices.Clone(p.Vars), slices.Clone(p.Rules)
	for i, r := range p.Rules {
		p.Rules[i].Guard, p.Rules[i].Sets = slices.Clone(r.Guard), slices.Clone(r.Sets)
		for k, s := range r.Sets {
			p.Rules[i].Sets[k].Value = slices.Clone(s.Value)
		}
	}
	return p
}

// describe returns a text for messages.
func describe(p api.Program, g api.Graph) string {
	return fmt.Sprintf("%.200s on %.200s", fmt.Sprint(p.Vars), fmt.Sprint(g))
}

// wantRange checks the range of a variable at a node.
func wantRange(t *testing.T, p api.Program, g api.Graph, v, x, wantLo, wantHi int) {
	t.Helper()
	if lo, hi, e := domain.Range(p, g, v, x); lo != wantLo || hi != wantHi || e != api.OK {
		t.Errorf("%s: x%d at node %d is from %d to %d, %d, instead of %d to %d", describe(p, g), x, v, lo, hi, e, wantLo, wantHi)
	}
}

// wantNoRange checks that there is this error instead of a range (R5).
func wantNoRange(t *testing.T, p api.Program, g api.Graph, v, x int, want api.Errno) {
	t.Helper()
	if lo, hi, e := domain.Range(p, g, v, x); lo != 0 || hi != 0 || e != want {
		t.Errorf("%s: x%d at node %d is from %d to %d, %d, instead of the error %d", describe(p, g), x, v, lo, hi, e, want)
	}
}

func wantFits(t *testing.T, p api.Program, g api.Graph, want api.Errno) {
	t.Helper()
	if e := domain.Fits(p, g); e != want {
		t.Errorf("%s: Fits is %d instead of %d", describe(p, g), e, want)
	}
}

func wantClamp(t *testing.T, p api.Program, g api.Graph, v, x, value, want int) {
	t.Helper()
	if got := domain.Clamp(p, g, v, x, value); got != want {
		t.Errorf("%s: %d for x%d at node %d becomes %d instead of %d", describe(p, g), value, x, v, got, want)
	}
}

func wantSize(t *testing.T, p api.Program, g api.Graph, v, want int) {
	t.Helper()
	if got := domain.Size(p, g, v); got != want {
		t.Errorf("%s: node %d has %d states instead of %d", describe(p, g), v, got, want)
	}
}

// P9.1, P9.2 and P9.3: the examples of the chapter.
func TestExamples(t *testing.T) {
	p, g := prog(t, "0 .. 2 * n + 1; port"), path(3)
	for v := range 3 {
		wantRange(t, p, g, v, 0, 0, 7)
		wantClamp(t, p, g, v, 0, 9, 7)
		for value := range 8 {
			wantClamp(t, p, g, v, 0, value, value)
		}
	}
	wantRange(t, p, g, 1, 1, -1, 1)
	for value, want := range map[int]int{-1: -1, 0: 0, 1: 1, 2: -1} {
		wantClamp(t, p, g, 1, 1, value, want)
	}
	wantFits(t, prog(t, "5 .. n"), path(3), api.ErrDomain)
}

// P9.1: the range of an Int, by its text, on graphs with so many nodes and such identifiers. It is the same at all nodes.
func TestRangeOfInt(t *testing.T) {
	for _, x := range []struct {
		kind   string
		g      api.Graph
		lo, hi int
	}{
		{"0 .. 0", path(3), 0, 0}, {"0 .. 4096", path(3), 0, 4096}, {"4096 .. 4096", path(24), 4096, 4096}, {"3 .. 9", named(200, 255), 3, 9},
		{"5 .. 2", path(3), 5, 2}, {"4096 .. 0", path(1), 4096, 0}, {"1 .. 0", star(24), 1, 0},
		{"0 .. n", path(1), 0, 1}, {"0 .. n", path(2), 0, 2}, {"0 .. n", path(24), 0, 24}, {"0 .. n", named(255, 9, 7), 0, 3}, {"0 .. n", parted(), 0, 5},
		{"1 .. n + 1", path(3), 1, 4}, {"1 .. n - 1", path(3), 1, 2}, {"1 .. n - 3", path(3), 1, 0}, {"0 .. n - 1", path(1), 0, 0}, {"0 .. n - 2", path(1), 0, -1},
		{"4096 .. n - 4096", path(2), 4096, -4094}, {"0 .. 2 * n - 1", path(4), 0, 7}, {"0 .. 255 * n + 4096", path(24), 0, 10216}, {"7 .. 255 * n - 4096", path(24), 7, 2024},
		{"0 .. 254 * n", path(23), 0, 5842}, {"12 .. 6 * n - 3", path(2), 12, 9},
		{"0 .. ids", path(1), 0, 0}, {"0 .. ids", named(1), 0, 1}, {"0 .. ids", named(255), 0, 255}, {"0 .. ids", path(24), 0, 23},
		{"0 .. ids", named(9, 4, 6), 0, 9}, {"0 .. ids", named(4, 9, 6), 0, 9}, {"0 .. ids", named(4, 6, 9), 0, 9}, {"0 .. ids", named(0, 255), 0, 255},
		{"0 .. 255 * ids + 4096", named(255, 0), 0, 69121}, {"0 .. 255 * ids - 4096", named(3, 255), 0, 60929}, {"4096 .. ids - 4096", path(1), 4096, -4096},
		{"2 .. 3 * ids - 5", named(8, 1), 2, 19}, {"2 .. 3 * ids + 5", named(1, 8), 2, 29}, {"1 .. ids - 1", named(0, 1), 1, 0}, {"0 .. ids - 1", path(1), 0, -1},
		{"0 .. ids", parted(), 0, 4}, {"0 .. ids", sure(family.Cut(named(3, 30), 0, 1)), 0, 30},
	} {
		p := prog(t, x.kind)
		for v := range x.g.Ports {
			wantRange(t, p, x.g, v, 0, x.lo, x.hi)
		}
	}
}

// P9.1: the ranges of a Bool and of a Port, at nodes without ports, with one and with several.
func TestRangeOfBoolAndPort(t *testing.T) {
	p := prog(t, "bool; port")
	for _, g := range graphs() {
		for v, ports := range g.Ports {
			wantRange(t, p, g, v, 0, 0, 1)
			wantRange(t, p, g, v, 1, -1, len(ports)-1)
		}
	}
	for v, hi := range map[int]int{0: 0, 1: 1, 2: 0, 3: 0, 4: 0} {
		wantRange(t, p, parted(), v, 1, -1, hi)
	}
	wantRange(t, p, path(1), 0, 1, -1, -1)
	wantRange(t, p, star(24), 0, 1, -1, 22)
	wantRange(t, p, star(24), 23, 1, -1, 0)
}

// P9.1: each variable has a range of its own, wherever it stands, and whether the others have values or not.
func TestRangeOfEachVariable(t *testing.T) {
	p := prog(t, "bool; 1 .. n; port; 0 .. ids; 7 .. 3; 2 .. 9")
	g := named(4, 40, 3)
	for v, ports := range map[int]int{0: 1, 1: 2, 2: 1} {
		for x, want := range [][2]int{{0, 1}, {1, 3}, {-1, ports - 1}, {0, 40}, {7, 3}, {2, 9}} {
			wantRange(t, p, g, v, x, want[0], want[1])
		}
	}
	wantRange(t, tree(t), g, 2, 0, 0, 7)
	wantRange(t, tree(t), g, 2, 1, 0, 1)
	wantRange(t, tree(t), g, 1, 2, -1, 1)
}

// places are numbers around those of n nodes or variables, and whether they are some.
func places(n int) map[int]bool {
	all := map[int]bool{-2: false, -1: false, 0: true, n - 1: true, n: false, n + 1: false, n + 24: false, -n: false}
	for _, x := range far {
		all[x] = false
	}
	return all
}

// P9.1 and P9.3: v and x at the first node and variable, at the last one, and beyond them.
func TestPlaces(t *testing.T) {
	for kinds, n := range map[string]int{"1 .. 4": 1, "1 .. 4; 1 .. 4": 2, "1 .. 4; 1 .. 4; 1 .. 4; 1 .. 4; 1 .. 4; 1 .. 4": 6} {
		p := prog(t, kinds)
		for _, g := range []api.Graph{path(1), path(2), star(5), path(24)} {
			for v, node := range places(len(g.Ports)) {
				for x, variable := range places(n) {
					if node && variable {
						wantRange(t, p, g, v, x, 1, 4)
						wantClamp(t, p, g, v, x, 5, 4)
					} else {
						wantNoRange(t, p, g, v, x, api.ErrRange)
						wantClamp(t, p, g, v, x, 3, 0)
						wantClamp(t, p, g, v, x, 0, 0)
						wantClamp(t, p, g, v, x, 5, 0)
					}
				}
				if node {
					wantSize(t, p, g, v, 1<<(2*n))
				} else {
					wantSize(t, p, g, v, 0)
				}
			}
		}
	}
}

// wrongPrograms returns programs that are not types.Valid: most of them are changes of that of a tree.
func wrongPrograms(tree api.Program) map[string]api.Program {
	changed := func(change func(p *api.Program)) api.Program {
		p := copied(tree)
		change(&p)
		return p
	}
	return map[string]api.Program{
		"nothing":              {},
		"no variables":         changed(func(p *api.Program) { p.Vars, p.Rules = nil, nil }),
		"seven variables":      vars(make([]api.Var, 7)...),
		"too many rules":       changed(func(p *api.Program) { p.Rules = slices.Repeat(p.Rules[:1], 13) }),
		"no name":              changed(func(p *api.Program) { p.Name = "" }),
		"a reserved name":      changed(func(p *api.Program) { p.Vars[1].Name = "n" }),
		"the same name":        changed(func(p *api.Program) { p.Vars[1].Name = "d" }),
		"the same rule":        changed(func(p *api.Program) { p.Rules[1].Name = "top" }),
		"no kind":              changed(func(p *api.Program) { p.Vars[1].Kind = 0 }),
		"a kind too great":     changed(func(p *api.Program) { p.Vars[1].Kind = 4 }),
		"a negative kind":      changed(func(p *api.Program) { p.Vars[1].Kind = -1 }),
		"the greatest kind":    changed(func(p *api.Program) { p.Vars[1].Kind = math.MaxInt }),
		"a bool with a number": changed(func(p *api.Program) { p.Vars[1].Hi = 1 }),
		"a port with a number": changed(func(p *api.Program) { p.Vars[2].Lo = -1 }),
		"a negative Lo":        changed(func(p *api.Program) { p.Vars[0].Lo = -1 }),
		"a great Lo":           changed(func(p *api.Program) { p.Vars[0].Lo = 4097 }),
		"a great Hi":           changed(func(p *api.Program) { p.Vars[0].Hi = 4097 }),
		"the greatest Hi":      changed(func(p *api.Program) { p.Vars[0].Hi = math.MaxInt }),
		"a negative Hi":        vars(api.Var{Kind: api.Int, Hi: -1}),
		"a great PerNode":      changed(func(p *api.Program) { p.Vars[0].PerNode = 256 }),
		"the greatest PerNode": changed(func(p *api.Program) { p.Vars[0].PerNode = math.MaxInt }),
		"a negative PerID":     vars(api.Var{Kind: api.Int, PerID: -1}),
		"PerNode and PerID":    changed(func(p *api.Program) { p.Vars[0].PerID = 1 }),
		"no guard":             changed(func(p *api.Program) { p.Rules[0].Guard = nil }),
		"no sets":              changed(func(p *api.Program) { p.Rules[1].Sets = nil }),
		"a set of no variable": changed(func(p *api.Program) { p.Rules[1].Sets[0].Var = 3 }),
		"a guard of a number":  changed(func(p *api.Program) { p.Rules[1].Guard = []api.Term{{Op: api.Deg}} }),
		"a value of no type":   changed(func(p *api.Program) { p.Rules[1].Sets[0].Value = []api.Term{{Op: api.True}} }),
	}
}

// wrongGraphs returns graphs that are not graph.Valid.
func wrongGraphs() map[string]api.Graph {
	changed := func(change func(g *api.Graph)) api.Graph {
		g := path(3)
		change(&g)
		return g
	}
	return map[string]api.Graph{
		"nothing":           {},
		"no nodes":          {IDs: []int{}, Ports: [][]api.Link{}},
		"no ports":          {IDs: []int{0, 1, 2}},
		"no identifiers":    changed(func(g *api.Graph) { g.IDs = nil }),
		"an id too few":     changed(func(g *api.Graph) { g.IDs = g.IDs[:2] }),
		"an id too many":    changed(func(g *api.Graph) { g.IDs = append(g.IDs, 9) }),
		"the same id":       changed(func(g *api.Graph) { g.IDs[2] = 0 }),
		"a great id":        changed(func(g *api.Graph) { g.IDs[2] = 256 }),
		"the greatest id":   changed(func(g *api.Graph) { g.IDs[2] = math.MaxInt }),
		"a negative id":     changed(func(g *api.Graph) { g.IDs[0] = -1 }),
		"a link to no node": changed(func(g *api.Graph) { g.Ports[2][0].To = 3 }),
		"a loop":            changed(func(g *api.Graph) { g.Ports[2][0].To = 2 }),
		"a parallel link":   changed(func(g *api.Graph) { g.Ports[1][0].To = 2 }),
		"a link of one end": changed(func(g *api.Graph) { g.Ports[2] = nil }),
		"no weight":         changed(func(g *api.Graph) { g.Ports[0][0].Weight, g.Ports[1][0].Weight = 0, 0 }),
		"two weights":       changed(func(g *api.Graph) { g.Ports[0][0].Weight = 2 }),
		"25 nodes":          {IDs: make([]int, 25), Ports: make([][]api.Link, 25)},
	}
}

// wantNothing checks what all functions return for a program and a graph of which one is not valid.
func wantNothing(t *testing.T, p api.Program, g api.Graph, want api.Errno) {
	t.Helper()
	wantFits(t, p, g, want)
	for _, v := range append([]int{-1, 0, 1, 2, 3, 24}, far...) {
		wantSize(t, p, g, v, 0)
		for _, x := range append([]int{-1, 0, 1, 2, 3, 6}, far...) {
			wantNoRange(t, p, g, v, x, want)
			wantClamp(t, p, g, v, x, 1, 0)
			wantClamp(t, p, g, v, x, math.MinInt, 0)
			wantClamp(t, p, g, v, x, math.MaxInt, 0)
		}
	}
}

// P9.1, P9.2 and P9.3: what is wrong with a program comes first, then what is wrong with a graph, whatever v and x are,
// and whether the variables fit or not.
func TestErrors(t *testing.T) {
	unfit := tree(t)
	unfit.Vars[0].Lo = 8
	wantFits(t, unfit, path(3), api.ErrDomain)
	for _, from := range []api.Program{tree(t), unfit} {
		for what, p := range wrongPrograms(from) {
			if types.Valid(p) {
				t.Fatalf("%s: valid", what)
			}
			wantNothing(t, p, path(3), api.ErrProgram)
			for _, g := range wrongGraphs() {
				wantNothing(t, p, g, api.ErrProgram)
			}
		}
	}
	for what, g := range wrongGraphs() {
		if graph.Valid(g) {
			t.Fatalf("%s: valid", what)
		}
		for _, kinds := range []string{"0 .. 3; bool; port", "port", "1 .. 0", "bool; 5 .. n", "0 .. 4096", "0 .. 255 * ids + 4096; port"} {
			wantNothing(t, prog(t, kinds), g, api.ErrGraph)
		}
		wantNothing(t, tree(t), g, api.ErrGraph)
	}
}

// P9.2: numbers of values of one Int: none, one, MaxRange, and one more or less.
func TestFitsOfInt(t *testing.T) {
	for _, x := range []struct {
		kind string
		g    api.Graph
		want api.Errno
	}{
		{"0 .. 0", path(1), api.OK}, {"7 .. 7", path(3), api.OK}, {"4096 .. 4096", path(3), api.OK}, {"3 .. 4", path(3), api.OK},
		{"1 .. 0", path(1), api.ErrDomain}, {"7 .. 6", path(3), api.ErrDomain}, {"4096 .. 4095", path(3), api.ErrDomain}, {"4096 .. 0", path(3), api.ErrDomain},
		{"0 .. 4094", path(3), api.OK}, {"0 .. 4095", path(3), api.OK}, {"0 .. 4096", path(3), api.ErrDomain}, {"1 .. 4096", path(3), api.OK}, {"2 .. 4096", path(3), api.OK},
		{"5 .. n", path(3), api.ErrDomain}, {"5 .. n", path(4), api.ErrDomain}, {"5 .. n", path(5), api.OK}, {"5 .. n", path(6), api.OK}, {"5 .. n", named(5, 50, 255), api.ErrDomain},
		{"5 .. ids", named(5, 2), api.OK}, {"5 .. ids", named(2, 5), api.OK}, {"5 .. ids", named(4, 2), api.ErrDomain}, {"5 .. ids", path(5), api.ErrDomain}, {"5 .. ids", path(6), api.OK},
		{"0 .. n - 1", path(1), api.OK}, {"0 .. n - 2", path(1), api.ErrDomain}, {"0 .. n - 4096", path(24), api.ErrDomain}, {"0 .. ids - 1", path(1), api.ErrDomain}, {"0 .. ids", path(1), api.OK},
		{"0 .. 255 * n", path(16), api.OK}, {"0 .. 255 * n + 15", path(16), api.OK}, {"0 .. 255 * n + 16", path(16), api.ErrDomain}, {"1 .. 255 * n + 16", path(16), api.OK},
		{"0 .. 255 * n", path(17), api.ErrDomain}, {"4096 .. 255 * n + 4096", path(16), api.OK}, {"4095 .. 255 * n + 4096", path(16), api.OK}, {"4096 .. 255 * n + 4096", path(17), api.ErrDomain},
		{"0 .. n + 4094", path(1), api.OK}, {"0 .. n + 4095", path(1), api.ErrDomain}, {"0 .. n + 4093", path(2), api.OK}, {"0 .. n + 4093", path(3), api.ErrDomain},
		{"0 .. 16 * ids + 15", named(255), api.OK}, {"0 .. 16 * ids + 16", named(255), api.ErrDomain}, {"0 .. 17 * ids", named(0, 255), api.ErrDomain}, {"0 .. 16 * ids", named(255, 0), api.OK},
		{"0 .. ids + 4095", path(1), api.OK}, {"0 .. ids + 4096", path(1), api.ErrDomain}, {"0 .. 255 * ids - 4096", named(255), api.ErrDomain}, {"0 .. 255 * ids - 4096", named(32), api.OK},
		{"0 .. 255 * ids + 4096", named(255), api.ErrDomain}, {"4096 .. 255 * ids - 4096", named(40), api.OK}, {"4096 .. 255 * ids - 4096", named(32), api.ErrDomain},
	} {
		wantFits(t, prog(t, x.kind), x.g, x.want)
	}
}

// P9.2: each variable in turn has no value, or too many, and the others fit; programs without an Int always do.
func TestFitsOfEachVariable(t *testing.T) {
	for _, others := range []string{"bool", "port", "0 .. 0", "0 .. 4095", "3 .. n"} {
		for n := 1; n <= api.MaxVars; n++ {
			kinds := slices.Repeat([]string{others}, n)
			wantFits(t, prog(t, strings.Join(kinds, ";")), path(3), api.OK)
			for at := range kinds {
				for _, wrong := range []string{"1 .. 0", "0 .. 4096", "4 .. n", "0 .. ids - 3"} {
					kinds[at] = wrong
					wantFits(t, prog(t, strings.Join(kinds, ";")), path(3), api.ErrDomain)
					kinds[at] = others
				}
			}
		}
	}
	for _, g := range graphs() {
		wantFits(t, prog(t, "bool"), g, api.OK)
		wantFits(t, prog(t, "port"), g, api.OK)
		wantFits(t, prog(t, "port; bool; port; bool; port; port"), g, api.OK)
	}
	wantFits(t, tree(t), path(3), api.OK)
	wantFits(t, prog(t, "1 .. 0; 0 .. 4096"), path(3), api.ErrDomain)
}

// P9.3: values below the range, at its bounds, in it and above it, for each kind.
func TestClamp(t *testing.T) {
	p := prog(t, "3 .. 9; bool; port; 0 .. n - 1; 2 .. ids; 4 .. 4")
	g := named(5, 1, 7, 0) // a path: the nodes 1 and 2 have two ports
	for _, x := range []struct{ x, value, want int }{
		{0, -1, 3}, {0, 0, 3}, {0, 2, 3}, {0, 3, 3}, {0, 4, 4}, {0, 8, 8}, {0, 9, 9}, {0, 10, 9}, {0, 4096, 9},
		{1, -2, 0}, {1, -1, 0}, {1, 0, 0}, {1, 1, 1}, {1, 2, 1}, {1, 3, 1},
		{2, -3, -1}, {2, -2, -1}, {2, -1, -1}, {2, 0, 0}, {2, 1, 1}, {2, 2, -1}, {2, 3, -1}, {2, 4, -1},
		{3, -1, 0}, {3, 0, 0}, {3, 1, 1}, {3, 3, 3}, {3, 4, 3}, {3, 5, 3},
		{4, -2, 2}, {4, 1, 2}, {4, 2, 2}, {4, 3, 3}, {4, 6, 6}, {4, 7, 7}, {4, 8, 7},
		{5, 3, 4}, {5, 4, 4}, {5, 5, 4},
	} {
		for _, v := range []int{1, 2} {
			wantClamp(t, p, g, v, x.x, x.value, x.want)
		}
	}
	for x, bounds := range [][2]int{{3, 9}, {0, 1}, {-1, -1}, {0, 3}, {2, 7}, {4, 4}} {
		for _, value := range far {
			want := bounds[0]
			if value > 0 {
				want = bounds[1]
			}
			for v := range g.Ports {
				wantClamp(t, p, g, v, x, value, want)
			}
		}
	}
}

// P9.3: a Port keeps the ports of its own node alone.
func TestClampOfPort(t *testing.T) {
	p := prog(t, "bool; port")
	for _, g := range graphs() {
		for v, ports := range g.Ports {
			for value := -30; value < 30; value++ {
				want := -1
				if value >= 0 && value < len(ports) {
					want = value
				}
				wantClamp(t, p, g, v, 1, value, want)
			}
		}
	}
}

// P9.3: Clamp and Size are 0 for all nodes and variables if one variable has no value, or too many.
func TestNothingIfUnfit(t *testing.T) {
	for _, wrong := range []string{"4 .. 3", "0 .. 4096", "4 .. n", "7 .. ids + 1"} {
		for at := range 3 {
			kinds := []string{"2 .. 9", "bool", "port"}
			kinds[at] = wrong
			p := prog(t, strings.Join(kinds, ";"))
			for v := range 3 {
				wantSize(t, p, path(3), v, 0)
				for x := range 3 {
					for _, value := range append([]int{-2, -1, 0, 1, 2, 3, 9, 4096, 4097}, far...) {
						wantClamp(t, p, path(3), v, x, value, 0)
					}
				}
			}
		}
	}
}

// P9.3: numbers of states of one and of several variables, and products around MaxNum.
func TestSize(t *testing.T) {
	for kinds, want := range map[string]int{
		"0 .. 0": 1, "5 .. 5": 1, "bool": 2, "1 .. 3": 3, "0 .. 4095": 4096, "0 .. n": 4, "1 .. ids": 2, "0 .. 2 * n - 4": 3,
		"bool; bool": 4, "bool; 1 .. 3": 6, "1 .. 3; bool": 6, "0 .. 0; 0 .. 0; 2 .. 2": 1, "0 .. 4095; bool; 0 .. n; 1 .. 3; bool; 0 .. 0": 196608,
		"bool; bool; bool; bool; bool; bool":                   64,
		"0 .. 31; 0 .. 31; 0 .. 31; 0 .. 31; 0 .. 31; 0 .. 31": 1 << 30, "0 .. 4095; 0 .. 4095; 0 .. 63": 1 << 30, "0 .. 63; 0 .. 4095; 0 .. 4095": 1 << 30,
		"0 .. 4095; 0 .. 4095; 0 .. 62": 1<<30 - 1<<24, "0 .. 4095; 0 .. 4095; 0 .. 64": 1 << 30, "0 .. 4095; 0 .. 4095; 0 .. 127": 1 << 30,
		"1 .. 63; 1 .. 11; 1 .. 31; 1 .. 151; 1 .. 331":  1<<30 - 1, // a product of one less
		"1 .. 25; 1 .. 41; 1 .. 13; 1 .. 61; 1 .. 1321":  1 << 30,   // a product of one more
		"1 .. 1321; 1 .. 61; 1 .. 13; 1 .. 41; 1 .. 25":  1 << 30,
		"0 .. 4095; 0 .. 4095; 0 .. 127; 0 .. 0; 0 .. 0": 1 << 30, "0 .. 4095; 0 .. 4095; 0 .. 255": 1 << 30, // 2^31 and 2^32
		"0 .. 4095; 0 .. 4095; 0 .. 4095; bool": 1 << 30, "0 .. 4095; 0 .. 4095; 0 .. 4095; 0 .. 4095; 0 .. 4095; 0 .. 7": 1 << 30, // up to 2^63
		"0 .. 4095; 0 .. 4095; 0 .. 4095; 0 .. 4095; 0 .. 4095; 0 .. 15": 1 << 30, "0 .. 4095; 0 .. 4095; 0 .. 4095; 0 .. 4095; 0 .. 4095; 0 .. 16": 1 << 30,
		"0 .. 4095; 0 .. 4095; 0 .. 4095; 0 .. 4095; 0 .. 4095; 0 .. 4095": 1 << 30, "1 .. 4095; 1 .. 4095; 1 .. 4095; 1 .. 4095; 1 .. 4095; 1 .. 4095": 1 << 30,
		"0 .. 0; 0 .. 4095; 0 .. 4095; 0 .. 4095; 0 .. 4095; 0 .. 4095": 1 << 30, "0 .. 4095; 0 .. 4095; 0 .. 4095; 0 .. 4095; 0 .. 4095; 0 .. 0": 1 << 30,
	} {
		p := prog(t, kinds)
		for v := range 3 {
			wantSize(t, p, path(3), v, want)
		}
	}
}

// P9.3: a Port has as many values as its node has ports, and one more; at a node without ports it has one.
func TestSizeOfPort(t *testing.T) {
	for _, g := range graphs() {
		for v, ports := range g.Ports {
			wantSize(t, prog(t, "port"), g, v, len(ports)+1)
			wantSize(t, prog(t, "port; bool; 1 .. 3; port"), g, v, 6*(len(ports)+1)*(len(ports)+1))
		}
	}
	wantSize(t, prog(t, "port; port; port"), path(1), 0, 1)
	wantSize(t, prog(t, "port; port; port; port; port; port"), star(24), 0, 191102976)
	wantSize(t, prog(t, "port; port; port; port; port; port"), star(24), 23, 64)
	wantSize(t, prog(t, "port; port; port; port; 0 .. 4095"), star(24), 0, 1<<30)
	wantSize(t, prog(t, "port; port; port; port; 0 .. 4095"), star(24), 1, 1<<16)
	wantSize(t, tree(t), path(3), 1, 8*2*3)
}

// R3: nil and empty lists, of rules and of ports.
func TestEmptyLists(t *testing.T) {
	p := tree(t)
	p.Rules = nil
	g := path(1)
	g.Ports[0] = nil
	for range 2 {
		wantRange(t, p, g, 0, 0, 0, 3)
		wantRange(t, p, g, 0, 2, -1, -1)
		wantFits(t, p, g, api.OK)
		wantClamp(t, p, g, 0, 0, 5, 3)
		wantSize(t, p, g, 0, 8)
		p.Rules, g.Ports[0] = []api.Rule{}, []api.Link{}
	}
}

// roomy returns a list with room behind its end, in which other elements lie.
func roomy[T any](l []T, other T) []T {
	l = append(slices.Clone(l), other, other)
	return l[:len(l)-2]
}

// R2: arguments stay as they are, with what lies behind the end of their lists, and this is not read.
func TestArguments(t *testing.T) {
	build := func() (api.Program, api.Graph) {
		p, g := copied(tree(t)), copiedGraph(named(4, 9, 2))
		p.Vars = roomy(p.Vars, api.Var{Kind: 9, Lo: 7})
		p.Rules = roomy(p.Rules, api.Rule{Name: "?"})
		for i := range p.Rules {
			p.Rules[i].Guard = roomy(p.Rules[i].Guard, api.Term{Op: 99})
			p.Rules[i].Sets = roomy(p.Rules[i].Sets, api.Set{Var: 77})
		}
		g.IDs = roomy(g.IDs, 255)
		for v := range g.Ports {
			g.Ports[v] = roomy(g.Ports[v], api.Link{To: 5, Weight: 5})
		}
		g.Ports = roomy(g.Ports, []api.Link{{To: 1, Weight: 1}})
		return p, g
	}
	all := func(p api.Program, g api.Graph) []any {
		return []any{
			p.Vars[:cap(p.Vars)], p.Rules[:cap(p.Rules)], p.Rules[0].Guard[:cap(p.Rules[0].Guard)], p.Rules[1].Sets[:cap(p.Rules[1].Sets)],
			g.IDs[:cap(g.IDs)], g.Ports[:cap(g.Ports)], g.Ports[0][:cap(g.Ports[0])], g.Ports[1][:cap(g.Ports[1])], g.Ports[2][:cap(g.Ports[2])],
		}
	}
	p, g := build()
	for v := range 3 {
		wantRange(t, p, g, v, 0, 0, 7)
		wantRange(t, p, g, v, 2, -1, [3]int{0, 1, 0}[v])
		wantClamp(t, p, g, v, 0, 100, 7)
		wantSize(t, p, g, v, [3]int{32, 48, 32}[v])
		wantNoRange(t, p, g, v, 3, api.ErrRange)
		wantNoRange(t, p, g, 3, 0, api.ErrRange)
	}
	wantFits(t, p, g, api.OK)
	otherP, otherG := build()
	if !reflect.DeepEqual(all(p, g), all(otherP, otherG)) {
		t.Errorf("changed to %v", all(p, g))
	}
}
