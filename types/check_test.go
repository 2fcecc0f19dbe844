package types_test

import (
	"math"
	"reflect"
	"slices"
	"strconv"
	"strings"
	"testing"

	"selfstab/api"
	"selfstab/types"
)

// copied returns a program that shares no memory with p.
func copied(p api.Program) api.Program {
	p.Vars, p.Rules = slices.Clone(p.Vars), slices.Clone(p.Rules)
	for i, r := range p.Rules {
		r.Guard, r.Sets = slices.Clone(r.Guard), slices.Clone(r.Sets)
		for k, s := range r.Sets {
			r.Sets[k].Value = slices.Clone(s.Value)
		}
		p.Rules[i] = r
	}
	return p
}

// wantCheck checks the results of Check and Valid, and that they leave the program as it is.
func wantCheck(t *testing.T, what string, p api.Program, want api.Errno) {
	t.Helper()
	given := copied(p)
	if got := types.Check(given); got != want {
		t.Errorf("%s: %d instead of %d", what, got, want)
	}
	if got := types.Valid(given); got != (want == api.OK) {
		t.Errorf("%s: Valid is %v", what, got)
	}
	if !reflect.DeepEqual(given, p) {
		t.Errorf("%s: changed to %v", what, given)
	}
}

// change returns what is wrong, or right, with a program, and the program.
type change struct {
	what string
	make func(p *api.Program)
}

// wantChanges checks a program of three rules with each of the changes made.
func wantChanges(t *testing.T, want api.Errno, changes ...change) {
	t.Helper()
	for _, c := range changes {
		p := tree()
		c.make(&p)
		wantCheck(t, c.what, p, want)
	}
}

func variable(name string, kind int) api.Var { return api.Var{Name: name, Kind: kind} }

// rule returns a rule with values for the first variables.
func rule(name, guard string, values ...string) api.Rule {
	r := api.Rule{Name: name, Guard: read(guard)}
	for i, v := range values {
		r.Sets = append(r.Sets, api.Set{Var: i, Value: read(v)})
	}
	return r
}

// tree is a program of three rules with a variable of each type: d from 0 to n, b and p.
func tree() api.Program {
	return api.Program{
		Name: "tree",
		Vars: []api.Var{{Name: "d", Kind: api.Int, PerNode: 1}, variable("b", api.Bool), variable("p", api.Port)},
		Rules: []api.Rule{
			rule("top", "root && (d != 0 || p != none)", "0", "true", "none"),
			rule("low", "!root && d != (min(q.d) < n ? min(q.d) + 1 : n)", "min(q.d) < n ? min(q.d) + 1 : n", "false"),
			rule("link", "!root && p != first(q.d + 1 == d)", "d", "some(q.p == q.back)", "first(q.d + 1 == d)"),
		},
	}
}

// numbered returns so many different names.
func numbered(n int) []string {
	var all []string
	for i := range n {
		all = append(all, "x"+strconv.Itoa(i))
	}
	return all
}

// sized returns a program with so many variables and rules; each rule sets all variables, but no more than MaxVars.
func sized(vars, rules int) api.Program {
	p := api.Program{Name: "sized"}
	for _, name := range numbered(vars) {
		p.Vars = append(p.Vars, variable(name, api.Bool))
	}
	for _, name := range numbered(rules) {
		r := api.Rule{Name: name, Guard: read("true")}
		for i := range min(vars, api.MaxVars) {
			r.Sets = append(r.Sets, api.Set{Var: i, Value: read("false")})
		}
		p.Rules = append(p.Rules, r)
	}
	return p
}

// P7.2: programs that are valid.
func TestValid(t *testing.T) {
	wantCheck(t, "of all types", tree(), api.OK)
	wantChanges(t, api.OK,
		change{"without rules", func(p *api.Program) { p.Rules = nil }},
		change{"with no rules in a list", func(p *api.Program) { p.Rules = []api.Rule{} }},
		change{"a rule named as a variable", func(p *api.Program) { p.Rules[2].Name = "d" }},
		change{"a variable named as a rule", func(p *api.Program) { p.Vars[2].Name = "top" }},
		change{"named as a variable", func(p *api.Program) { p.Name = "b" }},
		change{"named as a rule", func(p *api.Program) { p.Name = "low" }},
		change{"a variable and a rule named as the program", func(p *api.Program) { p.Vars[0].Name, p.Rules[1].Name = "tree", "tree" }},
		change{"the same rule twice", func(p *api.Program) { p.Rules[1] = p.Rules[0]; p.Rules[1].Name = "again" }},
		change{"sets in another order", func(p *api.Program) { slices.Reverse(p.Rules[2].Sets) }},
		change{"a set of the last variable alone", func(p *api.Program) { p.Rules[0].Sets = p.Rules[0].Sets[2:] }},
		change{"a set of a variable by itself", func(p *api.Program) { p.Rules[2].Sets[2].Value = own(2) }},
		change{"a guard of one term", func(p *api.Program) { p.Rules[1].Guard = own(1) }},
		change{"no value of a variable on any graph", func(p *api.Program) { p.Vars[0].Lo, p.Vars[0].Hi = 4096, -4096 }},
	)
}

// P7.2: numbers of variables and rules.
func TestNumbersOfVariablesAndRules(t *testing.T) {
	for vars := range 2*api.MaxVars + 2 {
		for rules := range 2*api.MaxRules + 2 {
			want := api.OK
			if vars < 1 || vars > 6 || rules > 12 {
				want = api.ErrLimit
			}
			wantCheck(t, strconv.Itoa(vars)+" variables, "+strconv.Itoa(rules)+" rules", sized(vars, rules), want)
		}
	}
	wantCheck(t, "very many variables", sized(1000, 0), api.ErrLimit)
	wantCheck(t, "very many rules", sized(1, 1000), api.ErrLimit)
	wantCheck(t, "nothing", api.Program{}, api.ErrLimit)
	wantChanges(t, api.ErrLimit,
		change{"no variables", func(p *api.Program) { p.Vars = nil }},
		change{"no variables in a list", func(p *api.Program) { p.Vars = []api.Var{} }},
	)
}

// inName returns places of a program at which names stand: of the program, and of each variable and rule.
func inName(p *api.Program) []*string {
	places := []*string{&p.Name}
	for i := range p.Vars {
		places = append(places, &p.Vars[i].Name)
	}
	for i := range p.Rules {
		places = append(places, &p.Rules[i].Name)
	}
	return places
}

// wantName checks a program with a name at each place, one after the other.
func wantName(t *testing.T, name string, want api.Errno) {
	t.Helper()
	for at := range 7 {
		p := tree()
		*inName(&p)[at] = name
		wantCheck(t, strconv.Quote(name)+" at place "+strconv.Itoa(at), p, want)
	}
}

// P7.2: what is no lexer.Name, and what is one.
func TestNames(t *testing.T) {
	long := strings.Repeat("a", api.MaxName)
	for _, name := range []string{"a", "Z", "x_", "x_1", "D", "B", "N", "Root", "min_", "rules", long, "Q9"} {
		wantName(t, name, api.OK)
	}
	reserved := "program var rule bool port true false none n ids id deg root q weight back all some count first min max sum mex second head"
	for _, name := range append(strings.Fields(reserved), "", " ", "1", "1a", "_", "_a", "a b", "a ", " a", "a-b", "a.b", "a#", "a\n", "a\x00", "é", "aé", "\xff", "a\xff", long+"a", strings.Repeat(long, 1000)) {
		wantName(t, name, api.ErrName)
	}
}

// P7.2: two variables or two rules with the same name, at all pairs of places.
func TestSameNames(t *testing.T) {
	const vars, rules = api.MaxVars, api.MaxRules
	full := sized(vars, rules)
	for i := range inName(&full) {
		for k := range i {
			p := copied(full)
			places := inName(&p)
			*places[i], *places[k] = "same", "same"
			want := api.OK
			if k > vars || k > 0 && i <= vars {
				want = api.ErrName
			}
			wantCheck(t, "the same name at the places "+strconv.Itoa(k)+" and "+strconv.Itoa(i), p, want)
		}
	}
	wantChanges(t, api.OK, change{"names that differ by case, or by the last byte", func(p *api.Program) {
		p.Vars[0].Name, p.Vars[1].Name, p.Vars[2].Name = "x", "X", "x_"
	}})
}

// fits reports whether the numbers of a variable are as P7.3 says. Each number is one of the list in TestNumbers.
func fits(v api.Var) bool {
	one := func(x int, of ...int) bool { return slices.Contains(of, x) }
	switch v.Kind {
	case api.Int:
		if !one(v.Lo, 0, 1, 254, 255, 256, 4095, 4096) || !one(v.PerNode, 0, 1, 254, 255) || !one(v.PerID, 0, 1, 254, 255) {
			return false
		}
		if v.PerNode == 0 && v.PerID == 0 {
			return one(v.Hi, 0, 1, 254, 255, 256, 4095, 4096)
		}
		return (v.PerNode == 0 || v.PerID == 0) && !one(v.Hi, math.MinInt, math.MinInt32, -4097, 4097, math.MaxInt32, math.MaxInt)
	case api.Bool, api.Port:
		return v == api.Var{Name: v.Name, Kind: v.Kind}
	}
	return false
}

// P7.3: each number at its bounds and beyond them, with each other number at its own, for each Kind.
func TestNumbers(t *testing.T) {
	list := []int{0, 1, -1, 255, 256, -255, 4096, 4097, -4096, -4097, math.MinInt, math.MaxInt}
	p := tree()
	p.Rules = nil // their types are no matter here
	for _, kind := range []int{1, 2, 3, 0, -1, 4, 5, math.MinInt, math.MaxInt, 1<<32 + 1} {
		for _, lo := range list {
			for _, hi := range list {
				for _, perNode := range list {
					for _, perID := range list {
						v := api.Var{Name: "v", Kind: kind, Lo: lo, Hi: hi, PerNode: perNode, PerID: perID}
						want := api.ErrRange
						if fits(v) {
							want = api.OK
						}
						p.Vars[1] = v
						if got, valid := types.Check(p), types.Valid(p); got != want || valid != fits(v) {
							t.Fatalf("%v: %d, %v instead of %d", v, got, valid, want)
						}
					}
				}
			}
		}
	}
}

// P7.3: the bounds, written out, at each place of the variables.
func TestBoundsOfNumbers(t *testing.T) {
	for want, vars := range map[api.Errno][]api.Var{
		api.OK: {
			{Kind: api.Bool}, {Kind: api.Port}, {Kind: api.Int}, {Kind: api.Int, Lo: 4096}, {Kind: api.Int, Hi: 4096}, {Kind: api.Int, Lo: 5, Hi: 3},
			{Kind: api.Int, PerNode: 1, Hi: -4096}, {Kind: api.Int, PerID: 1, Hi: -4096}, {Kind: api.Int, PerNode: 255, Hi: 4096}, {Kind: api.Int, Lo: 4096, PerID: 255, Hi: 4096},
		},
		api.ErrRange: {
			{}, {Kind: 4}, {Kind: -1}, {Kind: api.Bool, Lo: 1}, {Kind: api.Bool, Hi: 1}, {Kind: api.Bool, PerNode: 1}, {Kind: api.Bool, PerID: 1}, {Kind: api.Bool, Lo: -1, Hi: -1},
			{Kind: api.Port, Lo: -1}, {Kind: api.Port, Hi: 1}, {Kind: api.Port, PerNode: 1}, {Kind: api.Port, PerID: 1},
			{Kind: api.Int, Lo: -1}, {Kind: api.Int, Lo: 4097}, {Kind: api.Int, Hi: -1}, {Kind: api.Int, Hi: 4097}, {Kind: api.Int, PerNode: -1}, {Kind: api.Int, PerID: -1},
			{Kind: api.Int, PerNode: 256}, {Kind: api.Int, PerID: 256}, {Kind: api.Int, PerNode: 1, PerID: 1}, {Kind: api.Int, PerNode: 1, Lo: -1}, {Kind: api.Int, PerID: 1, Lo: 4097},
			{Kind: api.Int, PerNode: 1, Hi: -4097}, {Kind: api.Int, PerNode: 1, Hi: 4097}, {Kind: api.Int, PerID: 1, Hi: -4097}, {Kind: api.Int, PerID: 1, Hi: 4097},
			{Kind: api.Int, PerNode: -1, Hi: -1}, {Kind: api.Int, PerNode: -1, PerID: 1}, {Kind: api.Int, PerNode: 1, PerID: -1},
		},
	} {
		for _, v := range vars {
			for at := range api.MaxVars {
				p := sized(api.MaxVars, 0)
				v.Name = "v"
				p.Vars[at] = v
				wantCheck(t, "a variable with other numbers", p, want)
			}
		}
	}
}

// P7.2: lists of Sets that are not well-formed, in each rule.
func TestSets(t *testing.T) {
	for at := range tree().Rules {
		sets := func(what string, vars ...int) change {
			return change{what, func(p *api.Program) {
				p.Rules[at].Sets = nil
				for _, x := range vars {
					value := [3]string{"d", "b", "p"}[((x%3)+3)%3]
					p.Rules[at].Sets = append(p.Rules[at].Sets, api.Set{Var: x, Value: read(value)})
				}
			}}
		}
		wantChanges(t, api.OK, sets("one Set", 1), sets("two Sets", 2, 0), sets("all Sets", 1, 2, 0))
		wantChanges(t, api.ErrForm,
			sets("no Sets"), sets("many Sets", 0, 1, 2, 0, 1, 2, 0), sets("too many Sets", slices.Repeat([]int{1, 2}, 500)...),
			sets("no such variable", 3), sets("no variable of so many", 6), sets("negative", -1), sets("no such variable, behind others", 0, 1, 2, 3), sets("negative, behind others", 2, -3),
			sets("least", math.MinInt), sets("greatest", math.MaxInt), sets("wrapped", 1<<32), sets("wrapped once more", 1<<8+1), sets("no such variable, ahead of others", 5, 1),
			sets("twice", 1, 1), sets("twice in the end", 1, 0, 0), sets("twice with another between", 2, 0, 2), sets("three times", 0, 0, 0), sets("each one twice", 0, 1, 2, 0, 1, 2), sets("no such variable twice", 3, 3),
		)
		wantChanges(t, api.ErrForm, change{"no Sets in a list", func(p *api.Program) { p.Rules[at].Sets = []api.Set{} }})
	}
	wantCheck(t, "Sets of as many variables as there can be", sized(api.MaxVars, 1), api.OK)
	more := sized(api.MaxVars, 1)
	more.Rules[0].Sets = append(more.Rules[0].Sets, more.Rules[0].Sets[0])
	wantCheck(t, "one Set more", more, api.ErrForm)
}

// place is a Guard or a Value of a program.
type place struct {
	what string
	of   func(p *api.Program) *[]api.Term
}

// places are all Guards and Values of the program tree.
func places() []place {
	var all []place
	for at, r := range tree().Rules {
		all = append(all, place{"guard of rule " + strconv.Itoa(at), func(p *api.Program) *[]api.Term { return &p.Rules[at].Guard }})
		for k := range r.Sets {
			all = append(all, place{"value " + strconv.Itoa(k) + " of rule " + strconv.Itoa(at), func(p *api.Program) *[]api.Term { return &p.Rules[at].Sets[k].Value }})
		}
	}
	return all
}

// wantExpressions checks the program tree with each expression at each place.
func wantExpressions(t *testing.T, want api.Errno, expressions ...[]api.Term) {
	t.Helper()
	for _, x := range places() {
		for _, e := range expressions {
			p := tree()
			*x.of(&p) = e
			wantCheck(t, x.what, p, want)
		}
	}
}

// P7.2: Guards and Values that are not valid expressions over the variables of the program.
func TestExpressionsNotValid(t *testing.T) {
	wantExpressions(t, api.ErrForm,
		nil, []api.Term{}, join(0), join(44), join(-1), join(api.Not), slices.Concat(own(1), own(1)), join(api.If, own(1), own(1)),
		own(3), own(5), own(6), own(-1), read("min(q.e)"), read("b && c"), num(-1), num(api.MaxNum+1), []api.Term{{Op: api.True, Arg: 1}},
		chain(api.Not, api.MaxDepth, own(1)), chain(api.All, api.MaxNest+1, own(1)), join(api.Neg, sums(101)),
		slices.Repeat(own(1), 1<<12), slices.Concat(read("!d"), own(1)), join(api.Eq, read("!d"), own(3)),
	)
}

// P7.2: expressions of a wrong type, and with a bound neighbour missing, at each Guard and Value.
func TestExpressionsOfWrongType(t *testing.T) {
	right := map[string][]string{
		"d": {"0", "d", "min(q.d)", "-ids", "b ? 1 : d", "count(q == p)"},
		"b": {"true", "b", "all(q.b)", "d == 0 || p == none", "some(q.d < max(q.d))"},
		"p": {"none", "p", "first(q.root)", "b ? none : p", "first(q.p == q.back)"},
	}
	never := []string{"q", "q.d", "q.b", "q.p", "q.id", "q.deg", "q.root", "q.weight", "q.back", "!d", "d + b", "p == d", "d ? b : b", "b ? b : p", "all(d)", "min(b)", "p < p", "all(b) && q.b", "q.d + sum(q.d)", "b ? p : q", "q.root && all(q.root)"}
	for _, x := range places() {
		p := tree()
		var wanted string // the variable that has the type
		switch e := x.of(&p); {
		case strings.HasPrefix(x.what, "guard"):
			wanted = "b"
		default:
			kind, _ := types.Of(*e, kinds("ibp"), false)
			wanted = [...]string{api.Int: "d", api.Bool: "b", api.Port: "p"}[kind]
		}
		for name, texts := range right {
			want := api.ErrType
			if name == wanted {
				want = api.OK
			}
			for _, text := range texts {
				*x.of(&p) = read(text)
				wantCheck(t, x.what+" "+text, p, want)
			}
		}
		for _, text := range never {
			*x.of(&p) = read(text)
			wantCheck(t, x.what+" "+text, p, api.ErrType)
		}
	}
}

// defects are things that are wrong with the program tree, by their errors. Each one stays wrong beside the others, at whatever rule it is.
func defects(at int) map[api.Errno][]change {
	return map[api.Errno][]change{
		api.ErrLimit: {
			{"too many rules", func(p *api.Program) {
				for i := range api.MaxRules {
					r := copied(tree()).Rules[i%3]
					r.Name = "more" + strconv.Itoa(i)
					p.Rules = append(p.Rules, r)
				}
			}},
			{"too many variables", func(p *api.Program) {
				for i := range api.MaxVars {
					p.Vars = append(p.Vars, variable("more"+strconv.Itoa(i), api.Bool))
				}
			}},
		},
		api.ErrName: {
			{"no name", func(p *api.Program) { p.Name = "" }},
			{"a reserved name of a variable", func(p *api.Program) { p.Vars[2].Name = "n" }},
			{"a rule without a name", func(p *api.Program) { p.Rules[at].Name = "" }},
			{"a rule with the name of another", func(p *api.Program) { p.Rules[at].Name = p.Rules[(at+1)%3].Name }},
		},
		api.ErrRange: {
			{"no kind", func(p *api.Program) { p.Vars[1].Kind = 0 }},
			{"a number of a Port", func(p *api.Program) { p.Vars[2].PerID = 1 }},
			{"a number of an Int", func(p *api.Program) { p.Vars[0].Lo = 4097 }},
		},
		api.ErrForm: {
			{"no Sets", func(p *api.Program) { p.Rules[at].Sets = nil }},
			{"a Set of no variable", func(p *api.Program) { p.Rules[at].Sets = append(p.Rules[at].Sets, api.Set{Var: -1, Value: num(1)}) }},
			{"a Value that is none", func(p *api.Program) { p.Rules[at].Sets[len(p.Rules[at].Sets)-1].Value = nil }},
		},
		api.ErrType: {
			{"a Guard of another type", func(p *api.Program) { p.Rules[(at+1)%3].Guard = num(1) }},
			{"a Value of another type", func(p *api.Program) { p.Rules[(at+1)%3].Sets[0].Value = own(1) }},
			{"a neighbour that is not bound", func(p *api.Program) { p.Rules[(at+2)%3].Guard = read("q.b") }},
		},
	}
}

// P7.2: programs with two and with five errors of different kinds, in all rules, made in either order.
func TestOrder(t *testing.T) {
	order := []api.Errno{api.ErrLimit, api.ErrName, api.ErrRange, api.ErrForm, api.ErrType}
	for at := range 3 {
		all := defects(at)
		for i, first := range order {
			wantChanges(t, first, all[first]...)
			for _, second := range order[i+1:] {
				for _, x := range all[first] {
					for _, y := range all[second] {
						p := tree()
						y.make(&p) // a Value that is none cannot be made where there are no Sets
						x.make(&p)
						wantCheck(t, x.what+", "+y.what, p, first)
					}
				}
			}
			p := tree()
			for _, errno := range slices.Backward(order[i:]) {
				all[errno][0].make(&p)
			}
			wantCheck(t, "all errors from "+strconv.Itoa(int(first))+" on", p, first)
		}
	}
}

// P7.2: the errors of expressions, in one rule and in two, in both orders.
func TestOrderOfExpressions(t *testing.T) {
	wrong, none := num(1), slices.Concat(own(1), own(1))
	list := places()
	for i, x := range list {
		for k, y := range list {
			p := tree()
			*x.of(&p) = read("p + d")
			*y.of(&p) = none
			wantCheck(t, x.what+" of no type, no expression as "+y.what, p, api.ErrForm)
			if i != k && strings.HasPrefix(x.what, "guard") {
				*y.of(&p) = wrong
				wantCheck(t, x.what+" of no type, a number as "+y.what, p, api.ErrType)
			}
		}
	}
}

// Consequences: a valid program without some of its rules is valid.
func TestWithoutRules(t *testing.T) {
	for _, p := range []api.Program{tree(), sized(2, api.MaxRules)} {
		for left := range 1 << len(p.Rules) {
			some := p
			some.Rules = nil
			for i, r := range p.Rules {
				if left>>i&1 == 1 {
					some.Rules = append(some.Rules, r)
				}
			}
			wantCheck(t, "some rules, "+strconv.Itoa(left), some, api.OK)
		}
	}
}

// R2: what stands behind the ends of the lists of a program counts for nothing, and stays as it is.
func TestSpareRoomOfProgram(t *testing.T) {
	p := tree()
	vars := roomy(p.Vars, api.Var{}, p.Vars[0], api.Var{Kind: -1})
	p.Vars = vars
	for i, r := range p.Rules {
		for k, s := range r.Sets {
			r.Sets[k].Value = roomy(s.Value, num(-1)...)
		}
		p.Rules[i].Guard = roomy(r.Guard, own(1)...)
		p.Rules[i].Sets = roomy(r.Sets, r.Sets[0], api.Set{Var: -1})
	}
	p.Rules = roomy(p.Rules, api.Rule{}, p.Rules[0])
	before := copied(p)
	wantCheck(t, "with spare room", p, api.OK)
	if types.Check(p) != api.OK || !types.Valid(p) {
		t.Errorf("not valid with spare room")
	}
	if !reflect.DeepEqual(p, before) || vars[:6][5].Kind != -1 || vars[:6][4] != p.Vars[0] {
		t.Errorf("changed to %v", p)
	}
}
