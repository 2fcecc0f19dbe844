package program_test

import (
	"fmt"
	"math/rand/v2"
	"slices"
	"strings"
	"testing"

	"selfstab/api"
	"selfstab/program"
	"selfstab/types"
)

// wantText checks that a valid program has this text, that Format leaves it as it is, and that the text is read back.
func wantText(t *testing.T, p api.Program, want string) {
	t.Helper()
	before := copied(p)
	if got, e := program.Format(p); got != want || e != api.OK {
		t.Errorf("%.999v: %.999q, %d instead of %.999q", fmt.Sprint(p), got, e, want)
	}
	if !same(p, before) {
		t.Errorf("%.999v is changed to %.999v", fmt.Sprint(before), fmt.Sprint(p))
	}
	wantProgram(t, want, p)
}

// wantNoText checks that there is this error instead of a text (R5), and that Format leaves the program as it is.
func wantNoText(t *testing.T, what string, p api.Program, want api.Errno) {
	t.Helper()
	before := copied(p)
	if got, e := program.Format(p); got != "" || e != want {
		t.Errorf("%s: %.99q, %d instead of %d", what, got, e, want)
	}
	if !same(p, before) {
		t.Errorf("%s: the program is changed", what)
	}
}

// copied returns a program that shares no memory with p.
func copied(p api.Program) api.Program {
	p.Vars, p.Rules = slices.Clone(p.Vars), slices.Clone(p.Rules)
	for i, r := range p.Rules {
		p.Rules[i].Guard, p.Rules[i].Sets = slices.Clone(r.Guard), slices.Clone(r.Sets)
		for k, s := range r.Sets {
			p.Rules[i].Sets[k].Value = slices.Clone(s.Value)
		}
	}
	return p
}

// P8.2: the example of the chapter, and that of the document.
func TestFormatExamples(t *testing.T) {
	wantText(t, bfsProgram(), bfs)
	wantText(t, api.Program{
		Name:  "a",
		Vars:  []api.Var{{Name: "b", Kind: api.Bool}},
		Rules: []api.Rule{{Name: "c", Guard: list(own(0)), Sets: []api.Set{{Value: list(op(api.False))}}}},
	}, "program a;\nvar b : bool;\nrule c: b -> b := false;\n")
}

// P8.2: every type, with the shortest bound.
func TestFormatTypes(t *testing.T) {
	for _, x := range typeTexts {
		wantText(t, api.Program{Name: "p", Vars: []api.Var{x.v}}, "program p;\nvar x : "+x.text+";\n")
		other := x.v
		other.Name = "y_2"
		wantText(t, api.Program{Name: "p", Vars: []api.Var{x.v, {Name: "b", Kind: api.Bool}, other}}, "program p;\nvar x : "+x.text+";\nvar b : bool;\nvar y_2 : "+x.text+";\n")
	}
	for _, x := range longTypes {
		text, e := program.Format(api.Program{Name: "p", Vars: []api.Var{x.v}})
		if e != api.OK || len(text) >= len("program p;\nvar x : "+x.text+";\n") {
			t.Errorf("%s is written as %q, %d", x.text, text, e)
		}
	}
}

// P8.2: all numbers of an Int around their bounds, against the forms that the chapter writes.
func TestFormatBounds(t *testing.T) {
	highs := []int{-api.MaxRange, -api.MaxRange + 1, -10, -2, -1, 0, 1, 2, 10, api.MaxRange - 1, api.MaxRange}
	for _, lo := range []int{0, 1, 10, api.MaxRange} {
		for _, c := range []int{0, 1, 2, 10, api.MaxCoef - 1, api.MaxCoef} {
			for _, hi := range highs {
				for _, v := range []api.Var{intVar(lo, c, 0, hi), intVar(lo, 0, c, hi)} {
					p := api.Program{Name: "p", Vars: []api.Var{v}}
					if types.Valid(p) {
						wantText(t, p, "program p;\nvar x : "+shownType(v)+";\n")
					}
				}
			}
		}
	}
}

// P8.2: programs without rules, with one and with many, and with one set and several.
func TestFormatRules(t *testing.T) {
	vars := []api.Var{{Name: "a", Kind: api.Bool}, {Name: "b", Kind: api.Port}, {Name: "c", Kind: api.Int, Hi: 1}}
	const head = "program p;\nvar a : bool;\nvar b : port;\nvar c : 0 .. 1;\n"
	value := [][]api.Term{list(op(api.Some), op(api.And), near(0), op(api.Not), op(api.NearRoot)), list(op(api.First), op(api.Eq), near(1), op(api.Back)), list(op(api.Sub), num(1), own(2))}
	text := []string{"a := some(q.a && !q.root)", "b := first(q.b == q.back)", "c := 1 - c"}
	wantText(t, api.Program{Name: "p", Vars: vars}, head)
	var rules []api.Rule
	body := ""
	for i, order := range [][]int{{0}, {1}, {2}, {0, 1}, {1, 0}, {2, 0}, {0, 1, 2}, {2, 1, 0}, {1, 2, 0}, {2}, {0}, {1, 2}} {
		r := api.Rule{Name: fmt.Sprint("r", i), Guard: list(op(api.Or), own(0), op(api.Eq), own(2), num(i))}
		var sets []string
		for _, k := range order {
			r.Sets = append(r.Sets, api.Set{Var: k, Value: value[k]})
			sets = append(sets, text[k])
		}
		line := fmt.Sprintf("rule r%d: a || c == %d -> %s;\n", i, i, strings.Join(sets, ", "))
		rules, body = append(rules, r), body+line
		wantText(t, api.Program{Name: "p", Vars: vars, Rules: []api.Rule{r}}, head+line)
		wantText(t, api.Program{Name: "p", Vars: vars, Rules: rules}, head+body)
	}
}

// P8.2: expressions are written as package expr writes them, whatever stands around them.
func TestFormatExpressions(t *testing.T) {
	for _, x := range [][2]string{
		{"((x))", "x"}, {"(x?x:y)?x:y", "(x ? x : y) ? x : y"}, {"x?y:(y?x:x)", "x ? y : y ? x : x"}, {"!(x&&y)||!!x", "!(x && y) || !!x"},
		{"(z<1)==(1<z)", "(z < 1) == (1 < z)"}, {"z-(1-z)-1==-(-z)", "z - (1 - z) - 1 == --z"}, {"all(q.x||(q.y&&x))", "all(q.x || q.y && x)"}, {"x ? (x ? y : x) : y", "x ? x ? y : x : y"},
	} {
		p, _, e := program.Parse("program p; var x : bool; var y : bool; var z : 0 .. 1; rule r: " + x[0] + " -> x := " + x[0] + ", y := (" + x[0] + ");")
		if e != api.OK {
			t.Errorf("%s: %d", x[0], e)
		}
		wantText(t, p, "program p;\nvar x : bool;\nvar y : bool;\nvar z : 0 .. 1;\nrule r: "+x[1]+" -> x := "+x[1]+", y := "+x[1]+";\n")
	}
}

// broken are changes by which the program of bfs is not valid any more.
var broken = map[string]func(p *api.Program){
	"no variable":           func(p *api.Program) { p.Vars, p.Rules = nil, nil },
	"too many variables":    func(p *api.Program) { p.Vars = slices.Repeat(p.Vars, 4) },
	"too many rules":        func(p *api.Program) { p.Rules = slices.Repeat(p.Rules, 7) },
	"no name":               func(p *api.Program) { p.Name = "" },
	"a reserved name":       func(p *api.Program) { p.Name = "rule" },
	"a name with more":      func(p *api.Program) { p.Name = "p;\nvar x : bool" },
	"a long name":           func(p *api.Program) { p.Name = strings.Repeat("w", api.MaxName+1) },
	"a bad variable":        func(p *api.Program) { p.Vars[1].Name = "n" },
	"a variable twice":      func(p *api.Program) { p.Vars[1].Name = "d" },
	"a bad rule":            func(p *api.Program) { p.Rules[0].Name = "1" },
	"a rule twice":          func(p *api.Program) { p.Rules[1].Name = "top" },
	"no kind":               func(p *api.Program) { p.Vars[0].Kind = 0 },
	"another kind":          func(p *api.Program) { p.Vars[1].Kind = 4 },
	"Lo is less":            func(p *api.Program) { p.Vars[0].Lo = -1 },
	"Lo is more":            func(p *api.Program) { p.Vars[0].Lo = api.MaxRange + 1 },
	"Hi is less":            func(p *api.Program) { p.Vars[0].Hi = -api.MaxRange - 1 },
	"Hi is more":            func(p *api.Program) { p.Vars[0].Hi = api.MaxRange + 1 },
	"Hi is negative":        func(p *api.Program) { p.Vars[0].PerNode, p.Vars[0].Hi = 0, -1 },
	"PerNode and PerID":     func(p *api.Program) { p.Vars[0].PerID = 1 },
	"PerNode is more":       func(p *api.Program) { p.Vars[0].PerNode = api.MaxCoef + 1 },
	"PerID is negative":     func(p *api.Program) { p.Vars[0].PerNode, p.Vars[0].PerID = 0, -1 },
	"a number of a port":    func(p *api.Program) { p.Vars[1].Hi = 1 },
	"no sets":               func(p *api.Program) { p.Rules[0].Sets = nil },
	"no guard":              func(p *api.Program) { p.Rules[1].Guard = nil },
	"no value":              func(p *api.Program) { p.Rules[1].Sets[0].Value = nil },
	"a set twice":           func(p *api.Program) { p.Rules[0].Sets[1] = p.Rules[0].Sets[0] },
	"a set of none":         func(p *api.Program) { p.Rules[0].Sets[0].Var = -1 },
	"a set of one more":     func(p *api.Program) { p.Rules[0].Sets[0].Var = 2 },
	"a term of none":        func(p *api.Program) { p.Rules[0].Guard = list(own(2)) },
	"no operation":          func(p *api.Program) { p.Rules[0].Guard = list(op(99)) },
	"an operand is missing": func(p *api.Program) { p.Rules[0].Guard = list(op(api.Not)) },
	"a deep value": func(p *api.Program) {
		p.Rules[0].Sets[0].Value = append(slices.Repeat(list(op(api.Neg)), api.MaxDepth), num(1))
	},
	"a guard of another type": func(p *api.Program) { p.Rules[0].Guard = list(num(1)) },
	"a value of another type": func(p *api.Program) { p.Rules[0].Sets[0].Value = list(op(api.None)) },
	"no bound neighbour":      func(p *api.Program) { p.Rules[1].Sets[0].Value = list(near(0)) },
}

// P8.2: programs that are not valid.
func TestFormatErrProgram(t *testing.T) {
	wantNoText(t, "nothing", api.Program{}, api.ErrProgram)
	wantNoText(t, "a name alone", api.Program{Name: "p"}, api.ErrProgram)
	for what, change := range broken {
		p := bfsProgram()
		change(&p)
		wantNoText(t, what, p, api.ErrProgram)
	}
}

// sumOf returns a sum of n times a term, of the least depth.
func sumOf(n int, term api.Term) []api.Term {
	if n == 1 {
		return list(term)
	}
	return slices.Concat(list(op(api.Add)), sumOf(n/2, term), sumOf(n-n/2, term))
}

// sized returns a valid program whose text has this size; large values of the term fill it, and then single signs.
func sized(t *testing.T, name string, term api.Term, size func(text string) int, want int) api.Program {
	t.Helper()
	p := api.Program{Name: name, Vars: []api.Var{{Name: name, Kind: api.Int, Hi: 9}, {Name: "b", Kind: api.Int, Hi: 9}}}
	for i := range api.MaxRules {
		rule := api.Rule{Name: fmt.Sprint("r", i), Guard: list(op(api.True)), Sets: []api.Set{{Var: 0, Value: list(num(1))}, {Var: 1, Value: list(num(1))}}}
		p.Rules = append(p.Rules, rule)
	}
	for i := range 2 * api.MaxRules {
		value := &p.Rules[i/2].Sets[i%2].Value
		for n := 100; n > 0; n /= 2 {
			*value = sumOf(n, term)
			if size(shown(p)) <= want {
				break
			}
			*value = list(num(1))
		}
	}
	missing := want - size(shown(p))
	for i, r := range p.Rules {
		signs := max(0, min(missing, api.MaxDepth-1))
		p.Rules[i].Guard = slices.Concat(slices.Repeat(list(op(api.Not)), signs), r.Guard)
		missing -= signs
	}
	if got := size(shown(p)); got != want || !types.Valid(p) {
		t.Fatalf("a program of the size %d instead of %d", got, want)
	}
	return p
}

func bytesOf(text string) int { return len(text) }

// tokensOf counts the tokens of a text that Format writes, also if it is too long to be scanned.
func tokensOf(text string) int {
	spread := strings.NewReplacer("(", "( ", ")", " )", "!", "! ", ";", " ;", ",", " ,", ": ", " : ").Replace(text)
	return len(strings.Fields(spread))
}

// P8.2: texts of exactly MaxText bytes and of exactly MaxTokens tokens, and greater ones; ErrProgram comes first.
func TestFormatLimits(t *testing.T) {
	check := func(p api.Program, want api.Errno) {
		t.Helper()
		if text := shown(p); want == api.OK {
			wantText(t, p, text)
		} else {
			wantNoText(t, fmt.Sprintf("%d bytes, %d tokens", bytesOf(text), tokensOf(text)), p, want)
		}
		for _, name := range []string{"no name", "no kind", "no sets", "a guard of another type", "too many variables"} {
			other := copied(p)
			broken[name](&other)
			wantNoText(t, name, other, api.ErrProgram)
		}
	}
	for more := -2; more <= 2; more++ {
		want := api.OK
		if more > 0 {
			want = api.ErrLimit
		}
		long := sized(t, strings.Repeat("w", api.MaxName), own(0), bytesOf, api.MaxText+more)
		many := sized(t, "a", num(1), tokensOf, api.MaxTokens+more)
		if n := tokensOf(shown(long)); n > api.MaxTokens {
			t.Fatalf("%d tokens", n)
		}
		if n := bytesOf(shown(many)); n > api.MaxText {
			t.Fatalf("%d bytes", n)
		}
		if n := len(words(shown(many))); want == api.OK && n != api.MaxTokens+more {
			t.Fatalf("%d tokens", n)
		}
		check(long, want)
		check(many, want)
	}
	check(sized(t, "a", num(api.MaxNum), bytesOf, 2*api.MaxText), api.ErrLimit)
}

// maker makes valid programs, the same ones in every run.
type maker struct {
	*rand.Rand
	vars []api.Var
}

// one returns one of some lists of terms.
func (m maker) one(lists ...[]api.Term) []api.Term { return lists[m.IntN(len(lists))] }

// nearby are operations that need a bound neighbour, by their types.
var nearby = [...][]int{api.Int: {api.NearID, api.NearDeg, api.Weight}, api.Bool: {api.NearRoot}, api.Port: {api.Here, api.Back}}

// facts are operations without operands, by their types.
var facts = [...][]int{api.Int: {api.Nodes, api.IDs, api.ID, api.Deg}, api.Bool: {api.True, api.False, api.Root}, api.Port: {api.None}}

// leaf returns a term of a type without operands.
func (m maker) leaf(kind int, bound bool) []api.Term {
	var all [][]api.Term
	ops := facts[kind]
	if bound {
		ops = slices.Concat(ops, nearby[kind])
	}
	for _, o := range ops {
		all = append(all, list(op(o)))
	}
	if kind == api.Int {
		all = append(all, list(num(m.IntN(12))), list(num(m.IntN(api.MaxNum+1))))
	}
	for i, v := range m.vars {
		if v.Kind == kind {
			all = append(all, list(own(i)), list(own(i)))
		}
		if v.Kind == kind && bound {
			all = append(all, list(near(i)), list(near(i)))
		}
	}
	return m.one(all...)
}

// expression returns an expression of a type with at most so many levels, and so many aggregates in one another.
func (m maker) expression(kind, levels, nest int, bound bool) []api.Term {
	if levels == 1 || m.IntN(4) == 0 {
		return m.leaf(kind, bound)
	}
	part := func(kind int) []api.Term { return m.expression(kind, levels-1, nest, bound) }
	if m.IntN(4) == 0 {
		return slices.Concat(list(op(api.If)), part(api.Bool), part(kind), part(kind))
	}
	if nest > 0 && m.IntN(3) == 0 {
		of, operand := m.aggregate(kind)
		return slices.Concat(list(op(of)), m.expression(operand, levels-1, nest-1, true))
	}
	of, operands := m.operation(kind)
	e := list(op(of))
	for _, operand := range operands {
		e = append(e, part(operand)...)
	}
	return e
}

// aggregate returns an aggregate of a type, and the type of its operand.
func (m maker) aggregate(kind int) (of, operand int) {
	switch {
	case kind == api.Port:
		return api.First, api.Bool
	case kind == api.Bool:
		return api.All + m.IntN(2), api.Bool
	case m.IntN(4) == 0:
		return api.CountOf, api.Bool
	}
	return api.Min + m.IntN(6), api.Int
}

// operation returns another operation of a type, and the types of its operands.
func (m maker) operation(kind int) (of int, operands []int) {
	switch compared := api.Int + m.IntN(3); {
	case kind == api.Port:
		return api.None, nil
	case kind == api.Int && m.IntN(5) == 0:
		return api.Neg, []int{api.Int}
	case kind == api.Int:
		return api.Mul + m.IntN(5), []int{api.Int, api.Int}
	case m.IntN(4) == 0:
		return api.Not, []int{api.Bool}
	case m.IntN(3) == 0:
		return api.Eq + m.IntN(2), []int{compared, compared}
	case m.IntN(2) == 0:
		return api.Lt + m.IntN(4), []int{api.Int, api.Int}
	}
	return api.And + m.IntN(2), []int{api.Bool, api.Bool}
}

// variable returns a variable.
func (m maker) variable(name string) api.Var {
	v := api.Var{Name: name, Kind: api.Int + m.IntN(3)}
	if v.Kind != api.Int {
		return v
	}
	v.Lo, v.Hi = m.IntN(api.MaxRange+1), m.IntN(api.MaxRange+1)
	switch m.IntN(3) {
	case 0:
		v.PerNode, v.Hi = 1+m.IntN(3), -v.Hi
	case 1:
		v.PerID, v.Hi = 1+m.IntN(api.MaxCoef), m.IntN(3)-1
	}
	return v
}

// program returns a valid program.
func (m maker) program() api.Program {
	p := api.Program{Name: m.word("p", "x0", "Root")}
	for i := range 1 + m.IntN(api.MaxVars) {
		p.Vars = append(p.Vars, m.variable(fmt.Sprint(m.word("x", "v_", "N"), i)))
	}
	m.vars = p.Vars
	for i := range m.IntN(4) {
		r := api.Rule{Name: fmt.Sprint(m.word("x", "r", "T"), i), Guard: m.expression(api.Bool, 5, api.MaxNest, false)}
		for _, k := range m.Perm(len(p.Vars))[:1+m.IntN(len(p.Vars))] {
			r.Sets = append(r.Sets, api.Set{Var: k, Value: m.expression(p.Vars[k].Kind, 4, api.MaxNest, false)})
		}
		p.Rules = append(p.Rules, r)
	}
	return p
}

// word returns one of some words.
func (m maker) word(words ...string) string { return words[m.IntN(len(words))] }

// Consequences: Parse reads back what Format writes, for programs of all kinds.
func TestReadBack(t *testing.T) {
	m := maker{Rand: rand.New(rand.NewPCG(8, 1))}
	for range 3000 {
		p := m.program()
		if !types.Valid(p) {
			t.Fatalf("%v is not valid", p)
		}
		wantText(t, p, shown(p))
	}
}

// Consequences: what Parse returned is written as a text that is read as the same program, and written again as it is;
// the text that was read may be another one.
func TestWrittenAgain(t *testing.T) {
	m := maker{Rand: rand.New(rand.NewPCG(8, 2))}
	for range 1000 {
		p := m.program()
		text := strings.NewReplacer("(", "((", ")", "))", " .. n", "..1*n", ";\n", " ; # x ;\n\t").Replace(shown(p))
		got, at, e := program.Parse(text)
		if !same(got, p) || at != 0 || e != api.OK {
			t.Errorf("%q: %v, %d, %d", text, got, at, e)
		}
		wantText(t, got, shown(p))
	}
}

// R2: what stands behind the ends of the lists counts for nothing, and stays as it is.
func TestSpareRoom(t *testing.T) {
	p := bfsProgram()
	p.Vars = append(p.Vars, p.Vars[0], api.Var{Kind: 7})[:2]
	for i, r := range p.Rules {
		p.Rules[i].Guard = append(r.Guard, own(9))[:len(r.Guard)]
		for k, s := range r.Sets {
			r.Sets[k].Value = append(s.Value, op(-1))[:len(s.Value)]
		}
		p.Rules[i].Sets = append(r.Sets, api.Set{Var: -1})[:len(r.Sets)]
	}
	p.Rules = append(p.Rules, p.Rules[0], api.Rule{})[:2]
	wantText(t, p, bfs)
	if p.Vars[:4][3].Kind != 7 || p.Rules[:3][2].Name != "top" {
		t.Errorf("changed to %v, %v", p.Vars[:4], p.Rules[:3])
	}
	for _, r := range p.Rules {
		if r.Guard[:len(r.Guard)+1][len(r.Guard)] != own(9) || r.Sets[:len(r.Sets)+1][len(r.Sets)].Var != -1 {
			t.Errorf("rule %s is changed", r.Name)
		}
	}
}

// R6: the same program has the same text, and the same error, in each call.
func TestFormatAgain(t *testing.T) {
	for _, text := range ordinary {
		p, _, _ := program.Parse(text)
		first, e := program.Format(p)
		for range 3 {
			if again, againE := program.Format(copied(p)); again != first || againE != e || e != api.OK {
				t.Errorf("%q, %d and %q, %d", first, e, again, againE)
			}
		}
	}
}
