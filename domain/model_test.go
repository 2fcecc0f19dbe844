package domain_test

import (
	"math/big"
	"math/rand/v2"
	"slices"
	"testing"

	"selfstab/api"
	"selfstab/domain"
	"selfstab/graph"
	"selfstab/types"
)

// bounds returns the least and the greatest value as the chapter says, counted up from Hi.
func bounds(g api.Graph, v int, x api.Var) (lo, hi int) {
	switch x.Kind {
	case api.Bool:
		return 0, 1
	case api.Port:
		hi = -1
		for range g.Ports[v] {
			hi++
		}
		return -1, hi
	}
	hi = x.Hi
	for range g.IDs {
		hi += x.PerNode
	}
	for range slices.Sorted(slices.Values(g.IDs))[len(g.IDs)-1] {
		hi += x.PerID
	}
	return x.Lo, hi
}

// values returns the values of a variable at a node, one by one.
func values(g api.Graph, v int, x api.Var) []int {
	var all []int
	lo, hi := bounds(g, v, x)
	for value := lo; value <= hi; value++ {
		all = append(all, value)
	}
	return all
}

// modelFits returns what Fits returns for a valid program and a valid graph.
func modelFits(p api.Program, g api.Graph) api.Errno {
	for _, x := range p.Vars {
		if all := values(g, 0, x); x.Kind == api.Int && (len(all) == 0 || len(all) > 4096) {
			return api.ErrDomain
		}
	}
	return api.OK
}

// modelClamp returns what Clamp returns for a variable of this kind with these values, if the program fits.
func modelClamp(kind int, all []int, value int) int {
	switch {
	case slices.Contains(all, value):
		return value
	case kind == api.Port:
		return -1
	case value < all[0]:
		return all[0]
	}
	return all[len(all)-1]
}

// modelSize returns what Size returns for a program that fits.
func modelSize(p api.Program, g api.Graph, v int) int {
	product, most := big.NewInt(1), big.NewInt(1<<30)
	for _, x := range p.Vars {
		product.Mul(product, big.NewInt(int64(len(values(g, v, x)))))
	}
	if product.Cmp(most) > 0 {
		product = most
	}
	return int(product.Int64())
}

// wantModel compares all functions with the model, for a valid program and a valid graph, at one node.
func wantModel(t *testing.T, p api.Program, g api.Graph, v int) {
	t.Helper()
	want, size := modelFits(p, g), 0
	if want == api.OK {
		size = modelSize(p, g, v)
	}
	wantFits(t, p, g, want)
	wantSize(t, p, g, v, size)
	for x, declared := range p.Vars {
		lo, hi := bounds(g, v, declared)
		all := values(g, v, declared)
		wantRange(t, p, g, v, x, lo, hi)
		for _, value := range []int{lo - 2, lo - 1, lo, lo + 1, 0, (lo + hi) / 2, hi - 1, hi, hi + 1, hi + 2, -5000, 5000, 70000} {
			clamped := 0
			if want == api.OK {
				clamped = modelClamp(declared.Kind, all, value)
			}
			wantClamp(t, p, g, v, x, value, clamped)
		}
	}
}

// P9.1, P9.2 and P9.3: one Int with each number at and near its bounds, on all graphs, at the first and the last node.
func TestModelOfInt(t *testing.T) {
	factors := [][2]int{{0, 0}, {1, 0}, {2, 0}, {16, 0}, {170, 0}, {255, 0}, {0, 1}, {0, 2}, {0, 16}, {0, 17}, {0, 255}}
	for _, g := range graphs() {
		for _, f := range factors {
			for _, lo := range []int{0, 1, 5, 24, 255, 4095, 4096} {
				for _, hi := range []int{-4096, -255, -24, -1, 0, 1, 15, 16, 254, 4095, 4096} {
					p := vars(api.Var{Kind: api.Int, Lo: lo, Hi: hi, PerNode: f[0], PerID: f[1]})
					if !types.Valid(p) {
						continue // a Hi that is negative alone
					}
					wantModel(t, p, g, 0)
					wantModel(t, p, g, len(g.Ports)-1)
				}
			}
		}
	}
}

// P9.2: all numbers of values from none to more than MaxRange, with and without a factor.
func TestModelOfCounts(t *testing.T) {
	g := named(2, 1)
	for count := -3; count <= 4100; count++ {
		want := api.ErrDomain
		if count >= 1 && count <= 4096 {
			want = api.OK
		}
		for _, x := range []api.Var{{Lo: 7, PerNode: 50, Hi: count - 94}, {Lo: 3, PerID: 4, Hi: count - 6}} {
			x.Kind = api.Int
			if x.Hi <= 4096 {
				wantFits(t, vars(x), g, want)
				wantFits(t, vars(api.Var{Kind: api.Bool}, x, api.Var{Kind: api.Port}), g, want)
			}
		}
	}
	for lo := range 20 {
		for hi := range 4097 {
			want := api.ErrDomain
			if hi >= lo && hi < lo+4096 {
				want = api.OK
			}
			wantFits(t, vars(api.Var{Kind: api.Int, Lo: lo, Hi: hi}), g, want)
		}
	}
}

// randomVar returns a variable; most of them have few values.
func randomVar(r *rand.Rand) api.Var {
	x := api.Var{Kind: 1 + r.IntN(3)}
	if x.Kind != api.Int {
		return x
	}
	x.Lo = r.IntN(4)
	x.Hi = x.Lo + r.IntN(60)
	switch r.IntN(6) {
	case 0:
		x.PerNode = 1 + r.IntN(200)
		x.Hi -= r.IntN(80)
	case 1:
		x.PerID = 1 + r.IntN(16)
		x.Hi -= r.IntN(80)
	case 2:
		x.Hi = 4000 + r.IntN(97)
	case 3:
		x.Hi = r.IntN(5)
	}
	return x
}

// randomProgram returns a program of up to MaxVars variables.
func randomProgram(r *rand.Rand) api.Program {
	all := make([]api.Var, 1+r.IntN(api.MaxVars))
	for i := range all {
		all[i] = randomVar(r)
	}
	return vars(all...)
}

// randomGraph returns a graph, which may be parted, with any identifiers.
func randomGraph(r *rand.Rand) api.Graph {
	n := 1 + r.IntN(api.MaxNodes)
	g := api.Graph{IDs: r.Perm(256)[:n], Ports: make([][]api.Link, n)}
	for range r.IntN(3 * n) {
		a, b, weight := r.IntN(n), r.IntN(n), 1+r.IntN(15)
		if a != b && !slices.ContainsFunc(g.Ports[a], func(l api.Link) bool { return l.To == b }) {
			g.Ports[a] = append(g.Ports[a], api.Link{To: b, Weight: weight})
			g.Ports[b] = append(g.Ports[b], api.Link{To: a, Weight: weight})
		}
	}
	return g
}

// P9.1, P9.2 and P9.3: programs of any variables on any graphs, at all nodes.
func TestModelOfPrograms(t *testing.T) {
	r := rand.New(rand.NewPCG(9, 1))
	fit := 0
	for range 800 {
		p, g := randomProgram(r), randomGraph(r)
		if !graph.Valid(g) {
			t.Fatalf("not valid: %v", g)
		}
		if !types.Valid(p) {
			continue
		}
		if modelFits(p, g) == api.OK {
			fit++
		}
		for v := range g.Ports {
			wantModel(t, p, g, v)
		}
	}
	if fit < 150 {
		t.Errorf("only %d programs that fit", fit)
	}
}

// The consequences: Clamp of what Clamp returns is the same value, and a value is in the range exactly if Clamp returns it.
func TestConsequences(t *testing.T) {
	r := rand.New(rand.NewPCG(9, 2))
	for range 400 {
		p, g := randomProgram(r), randomGraph(r)
		if domain.Fits(p, g) != api.OK {
			continue
		}
		v, x := r.IntN(len(g.Ports)), r.IntN(len(p.Vars))
		lo, hi, _ := domain.Range(p, g, v, x)
		for value := lo - 30; value <= min(hi+30, lo+200); value++ {
			clamped := domain.Clamp(p, g, v, x, value)
			wantClamp(t, p, g, v, x, clamped, clamped)
			if in := value >= lo && value <= hi; in != (clamped == value) {
				t.Errorf("%s: %d becomes %d, which has the range %d to %d", describe(p, g), value, clamped, lo, hi)
			}
			if clamped < lo || clamped > hi {
				t.Errorf("%s: %d becomes %d, outside of %d to %d", describe(p, g), value, clamped, lo, hi)
			}
		}
	}
}
