package program_test

import (
	"fmt"
	"math"
	"slices"
	"strings"
	"testing"

	"selfstab/api"
	"selfstab/lexer"
	"selfstab/program"
)

// bfs is the example of the chapter.
const bfs = `program bfs;
var d : 0 .. n;
var p : port;
rule top: root && (d != 0 || p != none) -> d := 0, p := none;
rule low: !root && d != (min(q.d) < n ? min(q.d) + 1 : n) -> d := min(q.d) < n ? min(q.d) + 1 : n;
`

// six are the declarations of as many variables as there can be.
const six = "var a : bool; var b : port; var c : 1 .. 2; var d : 0 .. n; var e : 3 .. 4 * ids - 5; var f : bool; "

// ordinary are programs of all kinds.
var ordinary = []string{
	bfs,
	"program b; var b : bool; rule b: b -> b := false;",
	"program none_yet; var x : 0 .. 2 * n + 1;",
	"program w; var w : 4096 .. 254 * ids - 255; rule v: w == id -> w := w / 2 % 3 * 4;",
	"program x;" + six + "rule one: a || b == none -> a := f; # q1\nrule two: true -> f := a, e := -d;",
	"program x;" + six + "rule one: a && f -> b := first(q.b == q.back), a := all(q.f), c := count(q == b); rule a: deg > 0 -> f := !f;",
	"program clock; var c : 0 .. 7; rule tick: all(q.c == c || q.c == (c + 1) % 8) -> c := (c + 1) % 8; rule fall: some(q.c < c && !q.root) -> c := min(q.c);",
}

// same reports whether two programs are equal; a nil list and an empty one are (R3).
func same(p, q api.Program) bool {
	sets := func(s, t api.Set) bool { return s.Var == t.Var && slices.Equal(s.Value, t.Value) }
	rules := func(r, s api.Rule) bool {
		return r.Name == s.Name && slices.Equal(r.Guard, s.Guard) && slices.EqualFunc(r.Sets, s.Sets, sets)
	}
	return p.Name == q.Name && slices.Equal(p.Vars, q.Vars) && slices.EqualFunc(p.Rules, q.Rules, rules)
}

// wantResult checks all results of Parse.
func wantResult(t *testing.T, text string, want api.Program, at int, e api.Errno) {
	t.Helper()
	got, gotAt, gotE := program.Parse(text)
	if !same(got, want) || gotAt != at || gotE != e {
		t.Errorf("%.999q: %.999v, %d, %d instead of %.999v, %d, %d", text, fmt.Sprint(got), gotAt, gotE, fmt.Sprint(want), at, e)
	}
}

// wantError checks that a text leads to this error at this place, and to no program (R5).
func wantError(t *testing.T, text string, at int, e api.Errno) {
	t.Helper()
	wantResult(t, text, api.Program{}, at, e)
}

// wantWrong checks that a text has this error at the token that stands behind this beginning.
func wantWrong(t *testing.T, beginning, rest string, e api.Errno) {
	t.Helper()
	wantError(t, beginning+rest, len(beginning), e)
}

// wantProgram checks that a text is this program, and that what Format writes of it is read as the same, and written again as it is.
func wantProgram(t *testing.T, text string, want api.Program) {
	t.Helper()
	wantResult(t, text, want, 0, api.OK)
	written, e := program.Format(want)
	if e != api.OK {
		t.Errorf("%.999q is not written: %d", text, e)
	}
	wantResult(t, written, want, 0, api.OK)
	got, _, _ := program.Parse(written)
	if again, e := program.Format(got); again != written || e != api.OK {
		t.Errorf("%.999q is written again as %.999q, %d", written, again, e)
	}
}

// wantAnswer checks the results of Parse against the model.
func wantAnswer(t *testing.T, text string) {
	t.Helper()
	want, at, e := answer(text)
	if e != api.OK {
		wantError(t, text, at, e)
		return
	}
	wantProgram(t, text, want)
}

func op(o int) api.Term   { return api.Term{Op: o} }
func num(n int) api.Term  { return api.Term{Op: api.Num, Arg: n} }
func own(i int) api.Term  { return api.Term{Op: api.Own, Arg: i} }
func near(i int) api.Term { return api.Term{Op: api.Near, Arg: i} }

// list returns a list of terms.
func list(terms ...api.Term) []api.Term { return terms }

// bfsProgram is the program of the text bfs, written out.
func bfsProgram() api.Program {
	low := list(op(api.If), op(api.Lt), op(api.Min), near(0), op(api.Nodes), op(api.Add), op(api.Min), near(0), num(1), op(api.Nodes))
	return api.Program{
		Name: "bfs",
		Vars: []api.Var{{Name: "d", Kind: api.Int, PerNode: 1}, {Name: "p", Kind: api.Port}},
		Rules: []api.Rule{
			{
				Name:  "top",
				Guard: list(op(api.And), op(api.Root), op(api.Or), op(api.Ne), own(0), num(0), op(api.Ne), own(1), op(api.None)),
				Sets:  []api.Set{{Var: 0, Value: list(num(0))}, {Var: 1, Value: list(op(api.None))}},
			},
			{
				Name:  "low",
				Guard: slices.Concat(list(op(api.And), op(api.Not), op(api.Root), op(api.Ne), own(0)), low),
				Sets:  []api.Set{{Var: 0, Value: low}},
			},
		},
	}
}

// P8.1: the examples of the chapter and of the document, written out.
func TestParseExamples(t *testing.T) {
	wantProgram(t, bfs, bfsProgram())
	wantError(t, "program p;", 0, api.ErrLimit)
	wantError(t, "program p; var n : bool;", 15, api.ErrSyntax)
	wantProgram(t, "program a; var b : bool; rule c: b -> b := false;", api.Program{
		Name:  "a",
		Vars:  []api.Var{{Name: "b", Kind: api.Bool}},
		Rules: []api.Rule{{Name: "c", Guard: list(own(0)), Sets: []api.Set{{Var: 0, Value: list(op(api.False))}}}},
	})
}

// P8.1: blanks, line feeds and comments between all tokens, and nothing where none is needed.
func TestGaps(t *testing.T) {
	tokens := words(bfs)
	for _, gap := range []string{" ", "\n", "\t", "\r\n", "#\n", " # ; -> x\n ", "\n\n# 1\n#2\n"} {
		text := strings.Join(tokens, gap)
		for _, s := range []string{text, gap + text + gap, text + "#", text + "# rule"} {
			wantProgram(t, s, bfsProgram())
		}
	}
	for i := range tokens { // a gap at one place alone
		wantProgram(t, strings.Join(tokens[:i], " ")+" # ,\n\t"+strings.Join(tokens[i:], " "), bfsProgram())
	}
	wantProgram(t, "program bfs;var d:0..n;var p:port;rule top:root&&(d!=0||p!=none)->d:=0,p:=none;rule low:!root&&d!=(min(q.d)<n?min(q.d)+1:n)->d:=min(q.d)<n?min(q.d)+1:n;", bfsProgram())
	wantProgram(t, strings.ReplaceAll(bfs, "min(q.d) + 1", "((min((q.d)))+(1))"), bfsProgram())
	wantProgram(t, bfs+strings.Repeat(" ", api.MaxText-len(bfs)), bfsProgram())
	wantError(t, bfs+strings.Repeat(" ", api.MaxText-len(bfs)+1), 0, api.ErrLimit)
}

// intVar is a variable x of the type Int.
func intVar(lo, perNode, perID, hi int) api.Var {
	return api.Var{Name: "x", Kind: api.Int, Lo: lo, PerNode: perNode, PerID: perID, Hi: hi}
}

// typeTexts are all forms of types, and their variables.
var typeTexts = []struct {
	text string
	v    api.Var
}{
	{"bool", api.Var{Name: "x", Kind: api.Bool}}, {"port", api.Var{Name: "x", Kind: api.Port}},
	{"0 .. 0", intVar(0, 0, 0, 0)}, {"0 .. 7", intVar(0, 0, 0, 7)}, {"5 .. 3", intVar(5, 0, 0, 3)}, {"4096 .. 4096", intVar(4096, 0, 0, 4096)},
	{"0 .. n", intVar(0, 1, 0, 0)}, {"1 .. n + 2", intVar(1, 1, 0, 2)}, {"1 .. n - 2", intVar(1, 1, 0, -2)}, {"1 .. n + 4096", intVar(1, 1, 0, 4096)}, {"1 .. n - 4096", intVar(1, 1, 0, -4096)},
	{"0 .. 2 * n", intVar(0, 2, 0, 0)}, {"0 .. 2 * n + 1", intVar(0, 2, 0, 1)}, {"9 .. 255 * n - 1", intVar(9, 255, 0, -1)}, {"0 .. 10 * n - 4096", intVar(0, 10, 0, -4096)},
	{"0 .. ids", intVar(0, 0, 1, 0)}, {"1 .. ids + 2", intVar(1, 0, 1, 2)}, {"1 .. ids - 2", intVar(1, 0, 1, -2)}, {"1 .. ids + 4096", intVar(1, 0, 1, 4096)}, {"1 .. ids - 4096", intVar(1, 0, 1, -4096)},
	{"0 .. 2 * ids", intVar(0, 0, 2, 0)}, {"0 .. 2 * ids + 1", intVar(0, 0, 2, 1)}, {"9 .. 255 * ids - 1", intVar(9, 0, 255, -1)}, {"4096 .. 254 * ids + 4095", intVar(4096, 0, 254, 4095)},
}

// longTypes are types that Format writes shorter.
var longTypes = []struct {
	text string
	v    api.Var
}{
	{"0 .. 1 * n", intVar(0, 1, 0, 0)}, {"0 .. 1 * ids", intVar(0, 0, 1, 0)}, {"0 .. n + 0", intVar(0, 1, 0, 0)}, {"0 .. n - 0", intVar(0, 1, 0, 0)}, {"0 .. ids + 0", intVar(0, 0, 1, 0)}, {"0 .. ids - 0", intVar(0, 0, 1, 0)},
	{"0 .. 1 * n + 0", intVar(0, 1, 0, 0)}, {"0 .. 1 * n - 0", intVar(0, 1, 0, 0)}, {"0 .. 1 * n - 7", intVar(0, 1, 0, -7)}, {"3 .. 1 * ids + 8", intVar(3, 0, 1, 8)}, {"3 .. 255 * ids + 0", intVar(3, 0, 255, 0)}, {"3 .. 2 * n - 0", intVar(3, 2, 0, 0)},
}

// P8.1: each form of a type.
func TestTypes(t *testing.T) {
	for _, x := range slices.Concat(typeTexts, longTypes) {
		want := api.Program{Name: "p", Vars: []api.Var{x.v}}
		wantProgram(t, "program p; var x : "+x.text+";", want)
		wantProgram(t, "program p;var x:"+strings.ReplaceAll(x.text, " ", "")+";", want)
		wantProgram(t, strings.Join(words("program p; var x : "+x.text+";"), "\n# \n"), want)
		before := api.Var{Name: "y", Kind: api.Bool}
		want.Vars = []api.Var{before, x.v}
		wantProgram(t, "program p; var y : bool; var x : "+x.text+";", want)
		want.Vars = []api.Var{x.v, before}
		wantProgram(t, "program p; var x : "+x.text+"; var y : bool;", want)
	}
}

// P8.1: all numbers of bounds at their limits and beyond them.
func TestNumbersOfBounds(t *testing.T) {
	numbers := []int{0, 1, 2, api.MaxCoef - 1, api.MaxCoef, api.MaxCoef + 1, api.MaxRange - 1, api.MaxRange, api.MaxRange + 1, api.MaxNum}
	for _, x := range numbers {
		in, coefficient := x <= api.MaxRange, x >= 1 && x <= api.MaxCoef
		check := func(form string, good bool, v api.Var) {
			t.Helper()
			text := fmt.Sprintf("program p; var x : "+form+";", x)
			if good {
				wantProgram(t, text, api.Program{Name: "p", Vars: []api.Var{v}})
			} else {
				wantError(t, text, len("program p; var x : ")+strings.Index(form, "%"), api.ErrRange)
			}
		}
		check("%d .. 7", in, intVar(x, 0, 0, 7))
		check("%d .. n", in, intVar(x, 1, 0, 0))
		check("%d .. 2 * ids - 1", in, intVar(x, 0, 2, -1))
		check("3 .. %d", in, intVar(3, 0, 0, x))
		for _, c := range []int{1, 2, api.MaxCoef} {
			check(fmt.Sprint("3 .. ", c, " * n + %d"), in, intVar(3, c, 0, x))
			check(fmt.Sprint("3 .. ", c, " * n - %d"), in, intVar(3, c, 0, -x))
			check(fmt.Sprint("3 .. ", c, " * ids + %d"), in, intVar(3, 0, c, x))
			check(fmt.Sprint("3 .. ", c, " * ids - %d"), in, intVar(3, 0, c, -x))
		}
		check("3 .. n + %d", in, intVar(3, 1, 0, x))
		check("3 .. n - %d", in, intVar(3, 1, 0, -x))
		check("3 .. ids + %d", in, intVar(3, 0, 1, x))
		check("3 .. ids - %d", in, intVar(3, 0, 1, -x))
		check("3 .. %d * n", coefficient, intVar(3, x, 0, 0))
		check("3 .. %d*ids", coefficient, intVar(3, 0, x, 0))
		check("3 .. %d # c\n * n + 2", coefficient, intVar(3, x, 0, 2))
		check("3 .. %d * ids - 2", coefficient, intVar(3, 0, x, -2))
	}
}

// P8.1: what is wrong around numbers: the number is, if it is out of its range, and otherwise what stands behind it.
func TestNumbersAndSyntax(t *testing.T) {
	const ahead = "program p; var x : "
	for _, behind := range []string{"", ";", " 1;", " ids;", " +", " .. n;"} {
		wantWrong(t, ahead+"0 .. ", "256 *"+behind, api.ErrRange)
		wantWrong(t, ahead+"0 .. ", "0 *"+behind, api.ErrRange)
		wantWrong(t, ahead, "4097"+behind, api.ErrRange)
		wantWrong(t, ahead+"0 .. ", "4097"+behind, api.ErrRange)
		wantWrong(t, ahead+"0 .. n + ", "4097"+behind, api.ErrRange)
		wantWrong(t, ahead+"0 .. ids - ", "4097"+behind, api.ErrRange)
		wantWrong(t, ahead+"256 ", "*"+behind, api.ErrSyntax) // this number is not in a bound
		wantWrong(t, ahead+"0 ", "*"+behind, api.ErrSyntax)
		wantWrong(t, ahead+"0 .. n + 255 ", "*"+behind, api.ErrSyntax)
		wantWrong(t, ahead+"0 .. n - ", "4097 *"+behind, api.ErrRange)
	}
	wantWrong(t, ahead, "4097 .. 4097;", api.ErrRange)
	wantWrong(t, ahead+"4096 .. ", "4097 + 4097;", api.ErrRange)
	wantWrong(t, ahead+"0 .. 7 ", "+ 4097;", api.ErrSyntax)
	wantWrong(t, ahead+"0 .. 255 * ", "4097;", api.ErrSyntax)
	wantWrong(t, ahead+"0 .. 255 * n + ", "n;", api.ErrSyntax)
	wantWrong(t, ahead+"0 .. n ", "n;", api.ErrSyntax)
	wantWrong(t, ahead+"0 .. n + 1 ", "+ 1;", api.ErrSyntax)
	wantWrong(t, ahead+"0 .. ", "x;", api.ErrSyntax)
	wantWrong(t, ahead, "n .. 7;", api.ErrSyntax)
	wantWrong(t, ahead+"0 .. ", "- 7;", api.ErrSyntax)
	wantWrong(t, ahead, "int;", api.ErrSyntax)
	wantWrong(t, ahead+"bool ", ".. 7;", api.ErrSyntax)
	wantWrong(t, ahead+"0 ", ". . 7;", api.ErrSyntax)
}

// P8.1: no var, no rule, one and several sets, as many variables and rules as there can be.
func TestParts(t *testing.T) {
	wantError(t, "program p;", 0, api.ErrLimit)
	wantError(t, "program p; # var x : bool;", 0, api.ErrLimit)
	wantError(t, "\n program\n p\n ; \n", 0, api.ErrLimit)
	wantProgram(t, "program p; var x : 0 .. 1;", api.Program{Name: "p", Vars: []api.Var{intVar(0, 0, 0, 1)}})
	want, _, _ := answer("program p;" + six)
	for n := range 6 {
		text, _, _ := strings.Cut(six, []string{"var b", "var c", "var d", "var e", "var f", "#"}[n])
		wantProgram(t, "program p;"+text, api.Program{Name: "p", Vars: want.Vars[:n+1]})
	}
	values := []string{"a := !f", "b := none", "c := 1", "d := n", "e := id", "f := a"}
	for n := range values {
		p := api.Program{Name: "p", Vars: want.Vars, Rules: []api.Rule{{Name: "r", Guard: list(op(api.True))}}}
		for i := range n + 1 {
			value := [][]api.Term{list(op(api.Not), own(5)), list(op(api.None)), list(num(1)), list(op(api.Nodes)), list(op(api.ID)), list(own(0))}[i]
			p.Rules[0].Sets = append(p.Rules[0].Sets, api.Set{Var: i, Value: value})
		}
		wantProgram(t, "program p;"+six+"rule r: true -> "+strings.Join(values[:n+1], ", ")+";", p)
		slices.Reverse(p.Rules[0].Sets)
		reversed := slices.Clone(values[:n+1])
		slices.Reverse(reversed)
		wantProgram(t, "program p;"+six+"rule r: true -> "+strings.Join(reversed, ", ")+";", p)
	}
	rules := ""
	p := api.Program{Name: "p", Vars: want.Vars[:1]}
	for n := range api.MaxRules {
		rules += fmt.Sprintf("rule r%d: a -> a := deg == %d; ", n, n)
		p.Rules = append(p.Rules, api.Rule{Name: fmt.Sprint("r", n), Guard: list(own(0)), Sets: []api.Set{{Value: list(op(api.Eq), op(api.Deg), num(n))}}})
		wantProgram(t, "program p; var a : bool; "+rules, p)
	}
	wantWrong(t, "program p; var a : bool; "+rules, "rule r: a -> a := a;", api.ErrLimit)
}

// P8.1: names that are as long as they can be, that stand for different things, and that differ in little.
func TestNames(t *testing.T) {
	long := strings.Repeat("w", api.MaxName)
	wantProgram(t, "program "+long+"; var "+long+" : bool; rule "+long+": "+long+" -> "+long+" := !"+long+";", api.Program{
		Name:  long,
		Vars:  []api.Var{{Name: long, Kind: api.Bool}},
		Rules: []api.Rule{{Name: long, Guard: list(own(0)), Sets: []api.Set{{Value: list(op(api.Not), own(0))}}}},
	})
	wantProgram(t, "program p; var x : bool; var X : bool; var x_ : bool; var x1 : bool; rule x: X -> x := x_;", api.Program{
		Name:  "p",
		Vars:  []api.Var{{Name: "x", Kind: api.Bool}, {Name: "X", Kind: api.Bool}, {Name: "x_", Kind: api.Bool}, {Name: "x1", Kind: api.Bool}},
		Rules: []api.Rule{{Name: "x", Guard: list(own(1)), Sets: []api.Set{{Value: list(own(2))}}}},
	})
	for _, name := range []string{"p", "x", "y", "r", "Program", "vars", "rule_"} { // the program, a variable and a rule may have one name
		p, at, e := program.Parse("program " + name + "; var x : bool; var y : 0 .. 1; rule r: x -> y := 0; rule p: y == 0 -> x := x; rule y: x -> x := !x;")
		if p.Name != name || at != 0 || e != api.OK {
			t.Errorf("the name %q: %v, %d, %d", name, p, at, e)
		}
	}
}

// P8.1: a name in a declaration that another one has already.
func TestNamesTwice(t *testing.T) {
	parts := strings.SplitAfter(strings.TrimSpace(six), ";")[:6]
	for i, part := range parts {
		name := words(part)[1]
		for k := i + 1; k <= 6; k++ {
			ahead := "program p; " + strings.Join(parts[:k], " ")
			if k == 6 { // there are too many of them then, which is found first
				wantWrong(t, ahead+" ", "var "+name+" : bool;", api.ErrLimit)
				continue
			}
			for _, behind := range []string{" : bool;", " : 0 .. 4097;", "", " x", " : var"} {
				wantWrong(t, ahead+" var ", name+behind, api.ErrName)
			}
		}
	}
	ahead := "program p; var x : bool; "
	for i := range api.MaxRules - 1 {
		ahead += fmt.Sprintf("rule r%d: x -> x := !x;\n", i)
		for k := range i + 1 {
			for _, behind := range []string{": x -> x := x;", "", " x", ": r0"} {
				wantWrong(t, ahead+"rule ", fmt.Sprint("r", k)+behind, api.ErrName)
			}
		}
	}
	wantWrong(t, "program p; var p : bool; var ", "p : bool;", api.ErrName)
	wantWrong(t, "program p; var x : bool; rule x: x -> x := x; rule ", "x: x -> x := x;", api.ErrName)
}

// P8.1: a name that no variable has, in a guard, in a value and before :=.
func TestUnknownNames(t *testing.T) {
	const ahead = "program p; var x : bool; var y : bool; rule r: "
	for _, name := range []string{"z", "p", "r", "X", "xx", "program_"} {
		for _, behind := range []string{"", " ", " -> x := x;", " && q", " z", ";", " := 1", " # x\n ->"} {
			for _, guard := range []string{"", "x && ", "!", "(", "q.", "all(q.x || q . ", "x == y ? 1 : ", "x # z\n == "} {
				wantWrong(t, ahead+guard, name+behind, api.ErrName)
			}
			for _, value := range []string{"x -> x := ", "x -> x := x, y := x || ", "x -> x := some(q.", "true -> y := !"} {
				wantWrong(t, ahead+value, name+behind, api.ErrName)
			}
			for _, set := range []string{"x -> ", "x -> x := x, ", "x -> x := x, y := x, "} {
				wantWrong(t, ahead+set, name+behind, api.ErrName)
			}
		}
		for _, other := range []string{"x ", "(x) ", "q.x ", "1 + 2 ", "x -> x ", "x -> x := y ", "x -> x := y, y := 1 ", "x -> x := y; ", "x -> x := y; rule s "} {
			wantWrong(t, ahead+other, name+" -> x := x;", api.ErrSyntax)
		}
	}
	wantWrong(t, "program p; rule r: ", "x -> x := x;", api.ErrName)
	wantWrong(t, "program p; rule r: true -> ", "x := x;", api.ErrName)
	wantWrong(t, "program p; rule r: 1 ", ";", api.ErrSyntax)
}

// P8.1: a word that can be no name where the grammar wants a NAME, and anything else there.
func TestNoNames(t *testing.T) {
	reserved := strings.Fields("program var rule bool port true false none n ids id deg root q weight back all some count first min max sum mex second head")
	for _, word := range slices.Concat(reserved, strings.Fields("0 17 ; : , ( ) . .. -> := ? && || == != < <= > >= + - * / % !")) {
		for _, behind := range []string{"", " ", ";", " x", " : bool;", " := 1;"} {
			for _, ahead := range []string{"program ", "program p; var ", "program p; var x : bool; var ", "program p; rule ", "program p; var x : bool; rule ", "program p; var x : bool; rule r: x -> x := x; rule "} {
				wantWrong(t, ahead, word+behind, api.ErrSyntax)
			}
			for _, ahead := range []string{"program p; var x : bool; rule r: x -> ", "program p; var x : bool; rule r: x -> x := x, "} {
				wantWrong(t, ahead, word+behind, api.ErrSyntax)
			}
		}
	}
}

// P8.1: too many variables and rules are found at their first words, unless those are wrong for the grammar.
func TestTooMany(t *testing.T) {
	for _, behind := range []string{"", " x : bool;", " a : bool;", " n", " var"} {
		wantWrong(t, "program p; "+six, "var"+behind, api.ErrLimit)
		wantWrong(t, "program p; "+six+"rule r: a -> a := a; ", "var"+behind, api.ErrSyntax)
		wantWrong(t, "program p; "+strings.TrimSuffix(six, "; ")+" ", "var"+behind, api.ErrSyntax)
	}
	rules := ""
	for i := range api.MaxRules {
		rules += fmt.Sprintf("rule r%d: x -> x := !x;\n", i)
	}
	for _, behind := range []string{"", " x: x -> x := x;", " r1", " 1", " rule"} {
		wantWrong(t, "program p; var x : bool; "+rules, "rule"+behind, api.ErrLimit)
		wantWrong(t, "program p; var x : bool; "+strings.TrimSuffix(rules, ";\n")+" ", "rule"+behind, api.ErrSyntax)
	}
	wantWrong(t, "program p; var x : bool; "+rules, "var y : bool;", api.ErrSyntax)
}

// P8.1: texts that do not scan have the scanner's error, whatever stands ahead of it and behind.
func TestScanErrors(t *testing.T) {
	long := strings.Repeat("w", api.MaxName+1)
	aheads := []string{"", "rule ", "program n; ", "program p; var x : 4097 .. ", "program p; rule r: z ", "program p; var x : bool; var x ", bfs, bfs + "rule low ", "program p; var x : bool; rule r: x -> "}
	for _, ahead := range aheads {
		for _, bad := range []struct {
			text string
			e    api.Errno
		}{{"=", api.ErrSyntax}, {"&", api.ErrSyntax}, {"|", api.ErrSyntax}, {"_x", api.ErrSyntax}, {"é", api.ErrSyntax}, {"\x00", api.ErrSyntax}, {"\xff", api.ErrSyntax}, {"007", api.ErrRange}, {"1073741825", api.ErrRange}, {long, api.ErrName}} {
			for _, behind := range []string{"", ";", " =", " 00", " " + long, ": bool;"} {
				wantWrong(t, ahead, bad.text+behind, bad.e)
			}
		}
		wantError(t, ahead+strings.Repeat(" ", api.MaxText+1-len(ahead)), 0, api.ErrLimit)
		wantError(t, "= "+ahead+strings.Repeat(" ", api.MaxText+1), 0, api.ErrLimit)
		most := api.MaxTokens - len(words(ahead))
		wantError(t, ahead+strings.Repeat(";", most)+" ;", len(ahead)+most+1, api.ErrLimit)
		wantAnswer(t, ahead+strings.Repeat(";", most))
	}
}

// P8.1: texts of exactly MaxTokens tokens, and of one more.
func TestManyTokens(t *testing.T) {
	const ahead, behind = "program p; var x : bool; rule r: ", " -> x := x; "
	want := func(guard ...api.Term) api.Program {
		return api.Program{Name: "p", Vars: []api.Var{{Name: "x", Kind: api.Bool}}, Rules: []api.Rule{{Name: "r", Guard: guard, Sets: []api.Set{{Value: list(own(0))}}}}}
	}
	brackets := (api.MaxTokens - len(words(ahead+"!x"+behind))) / 2
	full := func(guard string) string {
		return ahead + strings.Repeat("(", brackets) + guard + strings.Repeat(")", brackets) + behind
	}
	if n := len(words(full("!x"))); n != api.MaxTokens {
		t.Fatalf("%d tokens", n)
	}
	wantProgram(t, full("x"), want(own(0)))
	wantProgram(t, full("!x"), want(op(api.Not), own(0)))
	wantError(t, full("!!x"), strings.LastIndex(full("!!x"), ";"), api.ErrLimit)
	wantError(t, full("!x")+";", len(full("!x")), api.ErrLimit)
	wantError(t, full("x")+";", len(full("x")), api.ErrSyntax)
	wantError(t, full("y x"), strings.Index(full("y"), "y"), api.ErrName)
	wantError(t, strings.Repeat("( ", api.MaxTokens), 0, api.ErrSyntax)
	sets := strings.Repeat(", x := x", (api.MaxTokens-len(words(ahead+"x"+behind)))/4-1)
	wantError(t, ahead+"x -> x := x"+sets+";", 0, api.ErrForm)
	wantError(t, ahead+"x -> x := x"+sets+", y := x;", len(ahead+"x -> x := x"+sets+", "), api.ErrName)
}

// P8.1: ErrSyntax at the end of the text, wherever it ends.
func TestEnds(t *testing.T) {
	for _, text := range ordinary {
		tokens, _, _ := lexer.Scan(text)
		for i, x := range tokens {
			for _, gap := range []string{"", " ", "\n\t", "# end", "#\n", " # ;\n # ;"} {
				ended := text[:x.At] + gap
				_, _, e := answer(ended)
				switch {
				case i > 0 && text[tokens[i-1].At:tokens[i-1].End] == ";": // it may end there
					wantAnswer(t, ended)
				case e == api.ErrSyntax:
					wantError(t, ended, len(ended), api.ErrSyntax)
				default:
					t.Errorf("%q ends amidst a part, and the model finds %d", ended, e)
				}
			}
		}
	}
}

// vocabulary are all words and signs of the language, some numbers and some names.
var vocabulary = strings.Fields("a b c d p x z bfs low 0 1 255 256 4096 4097 " +
	"program var rule bool port true false none n ids id deg root q weight back all some count first min max sum mex second head " +
	"; : , ( ) . .. -> := ? && || == != < <= > >= + - * / % !")

// checkOneToken checks the texts in which one token is another one, is missing, stands twice, or has another one ahead
// of it, and those in which two tokens have changed their places.
func checkOneToken(t *testing.T, text string) {
	tokens, _, _ := lexer.Scan(text)
	for i, x := range tokens {
		ahead, token, behind := text[:x.At], text[x.At:x.End], text[x.End:]
		wantAnswer(t, ahead+behind)
		wantAnswer(t, ahead+token+" "+token+behind)
		for _, word := range vocabulary {
			wantAnswer(t, ahead+" "+word+" "+behind)
			wantAnswer(t, ahead+" "+word+" "+token+behind)
		}
		for _, y := range tokens[i+1:] {
			wantAnswer(t, ahead+text[y.At:y.End]+" "+text[x.End:y.At]+" "+token+" "+text[y.End:])
		}
	}
	for _, word := range vocabulary {
		wantAnswer(t, text+word)
	}
}

// P8.1: ordinary programs that are changed at one token, or at two.
func TestOneToken(t *testing.T) {
	for _, text := range ordinary {
		t.Run("", func(t *testing.T) {
			t.Parallel()
			checkOneToken(t, text)
		})
	}
}

// extend checks all texts of up to n more tokens of some behind a beginning, as long as they can become programs.
func extend(t *testing.T, beginning string, of []string, n int) {
	wantAnswer(t, beginning)
	if _, at, e := answer(beginning); n == 0 || t.Failed() || e != api.OK && at < len(beginning) && at > 0 {
		return
	}
	for _, token := range of {
		extend(t, beginning+" "+token, of, n-1)
	}
}

// P8.1: all short texts, and all short ends of each part of a program.
func TestShortTexts(t *testing.T) {
	extend(t, "", vocabulary, 3)
	extend(t, "program p;", vocabulary, 2)
	extend(t, "program p; var x : bool", strings.Fields("; var rule x y : bool 0 .. n ->"), 6)
	extend(t, "program p; var x : 0 ..", strings.Fields("2 255 4097 * n ids + - ; .."), 6)
	extend(t, "program p; var x : 0 ..", strings.Fields("0 1 256 4097 * n ids ; .."), 6)
	extend(t, "program p; var x : bool; rule r :", strings.Fields("x y true && ( ) -> ; := ,"), 7)
	extend(t, "program p; var x : bool; var y : 0 .. 1; rule r : x -> x", strings.Fields("x y := ; , 1 rule =="), 6)
	extend(t, "program p; var x : port; rule r : x == none -> x :=", strings.Fields("x first ( q . back == ) ; ? :"), 6)
}

// P8.1: every line of the grammar is part of a program that is read.
func TestEveryLine(t *testing.T) {
	used := map[string]bool{}
	texts := slices.Clone(ordinary)
	for _, x := range slices.Concat(typeTexts, longTypes) {
		texts = append(texts, "program p; var x : "+x.text+";")
	}
	for _, guard := range strings.Split("1 != 2 && id <= 3 || ids >= n, (x ? 1 : 2) * 3 / 4 % 5 < 6, none == q0 || true && !false, some(q.weight > -q.deg + 1 - q.id), max(second(q.id)) == head(sum(mex(1)))", ", ") {
		guard = strings.ReplaceAll(guard, "q0", "first(q.root && q.x == x)")
		texts = append(texts, "program p; var x : bool; rule r: "+strings.ReplaceAll(guard, "head(sum(mex(1)))", "head(sum(1)) + mex(2)")+" -> x := x;")
	}
	for _, text := range texts {
		wantAnswer(t, text)
		if _, _, e := program.Parse(text); e != api.OK {
			t.Errorf("%q: %d", text, e)
		}
		walk(words(text), func(rule string, line []string) { used[strings.Join(append([]string{rule}, line...), " ")] = true })
	}
	for _, line := range strings.Split(grammar, "\n") {
		if !used[line] {
			t.Errorf("no program has %s", line)
		}
	}
}

// part is a part of a text, and what can stand there instead: each one has an error at a place.
type part struct {
	text   string
	wrongs []wrongPart
}

// wrongPart is a text that has an error behind its beginning.
type wrongPart struct {
	beginning, rest string
	e               api.Errno
}

// parts are those of a program. Whatever stands ahead of a part, its errors stay as they are.
var parts = []part{
	{"program p;\n", []wrongPart{{"", "var p;", api.ErrSyntax}, {"program ", "program;", api.ErrSyntax}, {"program p", ": ", api.ErrSyntax}}},
	{"var x : bool;\n", []wrongPart{{"var ", "n : bool;", api.ErrSyntax}, {"var x : 3 .. ", "300 * n;", api.ErrRange}, {"var x : ", "5000 .. n;", api.ErrRange}}},
	{"var y : 0 .. 2 * ids + 1;\n", []wrongPart{{"var ", "x : bool;", api.ErrName}, {"var y : 0 .. n + ", "4097;", api.ErrRange}, {"var y : 0 .. ", "y;", api.ErrSyntax}, {"var y : 0 .. ", "0 * n;", api.ErrRange}}},
	{"var p : port; var a1 : bool; var a2 : bool; var a3 : bool;\n", []wrongPart{{"var p : port; var a1 : bool; var a2 : bool; var a3 : bool; ", "var a4 : bool;", api.ErrLimit}, {"var p : port; var ", "p : bool;", api.ErrName}}},
	{"rule r: x && y > 0 -> x := !x, y := y + 1;\n", []wrongPart{{"rule r: x && ", "z -> x := x;", api.ErrName}, {"rule r: x -> ", "z := x;", api.ErrName}, {"rule r: x -> x := ", "z;", api.ErrName}, {"rule r: x ", ": x;", api.ErrSyntax}, {"rule r: x -> x := x, y := y ", "y;", api.ErrSyntax}}},
	{"rule s: p == none -> p := first(q.x);\n", []wrongPart{{"rule ", "r: x -> x := x;", api.ErrName}, {"rule s: first(q.", "z) -> x := x;", api.ErrName}, {"rule s: (x ", "-> x := x;", api.ErrSyntax}, {"rule s: x -> x := x; ", "var y : bool;", api.ErrSyntax}}},
	{"rule t: a1 -> a2 := a3;\n", []wrongPart{{"rule t: a1 -> a2 := a3; ", "end", api.ErrSyntax}, {"rule t: a1 -> ", "a4 := a3;", api.ErrName}, {"rule ", "s", api.ErrName}}},
}

// joined returns the text of the parts from one on and ahead of another.
func joined(from, to int) string {
	text := ""
	for _, p := range parts[from:to] {
		text += p.text
	}
	return text
}

// P8.1: of two errors that are in the text the first one decides, and one of the scanner's before both.
func TestFirstError(t *testing.T) {
	wantAnswer(t, joined(0, len(parts)))
	for i, first := range parts {
		for _, x := range first.wrongs {
			ahead := joined(0, i) + x.beginning
			wantWrong(t, ahead, x.rest+"\n"+joined(i+1, len(parts)), x.e)
			wantWrong(t, ahead+x.rest+"\n"+joined(i+1, len(parts)), "=", api.ErrSyntax)
			wantWrong(t, ahead+x.rest+"\n"+joined(i+1, len(parts)), "00", api.ErrRange)
			for k := i + 1; k < len(parts); k++ {
				for _, y := range parts[k].wrongs {
					behind := joined(i+1, k) + y.beginning + y.rest + "\n" + joined(k+1, len(parts))
					wantWrong(t, ahead, x.rest+"\n"+behind, x.e)
				}
			}
		}
	}
}

// checkErrors are rules that types.Check refuses in a program with the variables of six, with its errors.
var checkErrors = []struct {
	rule string
	e    api.Errno
}{
	{"c -> a := a;", api.ErrType}, {"q.a -> a := a;", api.ErrType}, {"q == b -> a := a;", api.ErrType}, {"a && 1 -> a := a;", api.ErrType}, {"b < none -> a := a;", api.ErrType},
	{"a -> a := c;", api.ErrType}, {"a -> c := 1, a := none;", api.ErrType}, {"a -> b := q;", api.ErrType}, {"a -> d := q.d;", api.ErrType}, {"all(q.c) -> a := a;", api.ErrType}, {"a -> d := head(q.b);", api.ErrType},
	{"a -> a := a, a := f;", api.ErrForm}, {"a -> d := 1, c := 2, d := 1;", api.ErrForm}, {"a -> a := a, b := b, c := c, d := d, e := e, f := f, a := a;", api.ErrForm},
	{strings.Repeat("!", api.MaxDepth) + "a -> a := a;", api.ErrForm}, {"a -> a := " + strings.Repeat("!", api.MaxDepth) + "a;", api.ErrForm},
	{"some(all(some(q.a))) -> a := a;", api.ErrForm}, {"a -> c := 1, d := min(max(sum(q.c)));", api.ErrForm}, {"a -> d := 1" + strings.Repeat(" + 1", 100) + ";", api.ErrForm},
	{"a -> d := " + strings.Repeat("-", api.MaxTokens/2) + "1;", api.ErrForm},
}

// P8.1: the errors of types.Check have the place 0, and come behind all errors that have a place.
func TestCheckErrors(t *testing.T) {
	for _, x := range checkErrors {
		for _, ahead := range []string{"program p;" + six, "program p;" + six + "rule s: a -> a := !a;\n", "\n\nprogram a;" + six + "rule s: true -> a := false, d := e; "} {
			text := ahead + "rule r: " + x.rule
			wantError(t, text, 0, x.e)
			wantError(t, text+" rule t: f -> f := !f;", 0, x.e)
			wantAnswer(t, text)
			wantError(t, text+" rule ", len(text+" rule "), api.ErrSyntax)
			wantWrong(t, text, "var x : bool;", api.ErrSyntax)
			wantWrong(t, text+" rule ", "r: a -> a := a;", api.ErrName)
			wantWrong(t, text+" rule t: ", "z", api.ErrName)
			wantWrong(t, text+" rule t: a -> a := ", ";", api.ErrSyntax)
			wantWrong(t, strings.TrimSuffix(text, ";"), "]", api.ErrSyntax)
			wantWrong(t, strings.TrimSuffix(text, ";"), ") -> a := a;", api.ErrSyntax)
		}
	}
}

// P8.1: of two errors of types.Check the first one in its order decides, in whichever rules they are: ErrForm, then ErrType.
func TestOrderOfCheckErrors(t *testing.T) {
	for _, x := range checkErrors {
		for _, y := range checkErrors {
			if len(words(x.rule))+len(words(y.rule)) < api.MaxTokens/2 {
				wantError(t, "program p;"+six+"rule r: "+x.rule+" rule s: "+y.rule, 0, max(x.e, y.e))
			}
		}
	}
}

// P1: any bytes, amidst a program.
func TestAnyBytes(t *testing.T) {
	const text = "program p; var x : 0 .. 2 * n - 1; rule r: !root -> x := x < 7 ? min(q.x) : 0; # z"
	for at := range len(text) {
		wantAnswer(t, text[:at]+text[at+1:])
		for b := range math.MaxUint8 + 1 {
			wantAnswer(t, text[:at]+string([]byte{byte(b)})+text[at+1:])
			wantAnswer(t, text[:at]+string([]byte{byte(b)})+text[at:])
		}
	}
}

// scratch writes into all the memory of a program, also behind the ends of its lists.
func scratch(p api.Program) {
	for _, r := range p.Rules[:cap(p.Rules)] {
		for _, s := range r.Sets[:cap(r.Sets)] {
			clear(s.Value[:cap(s.Value)])
		}
		clear(r.Guard[:cap(r.Guard)])
		clear(r.Sets[:cap(r.Sets)])
	}
	clear(p.Rules[:cap(p.Rules)])
	clear(p.Vars[:cap(p.Vars)])
}

// R2, R6: the next call returns the same, whatever is written into a result.
func TestParseResultsAreNew(t *testing.T) {
	for _, text := range ordinary {
		first, _, _ := program.Parse(text)
		second, _, _ := program.Parse(text)
		want, _, _ := answer(text)
		scratch(first)
		if third, _, _ := program.Parse(text); !same(second, want) || !same(third, want) {
			t.Errorf("%q: a result shares memory", text)
		}
	}
}

// lists calls a function with each list of terms of a program.
func lists(p api.Program, visit func(e []api.Term)) {
	for _, r := range p.Rules {
		visit(r.Guard)
		for _, s := range r.Sets {
			visit(s.Value)
		}
	}
}

// R2: no two lists of a result share memory, their spare room neither.
func TestListsShareNothing(t *testing.T) {
	for _, text := range ordinary {
		p, _, _ := program.Parse(text)
		want, _, _ := answer(text)
		lists(p, func(e []api.Term) {
			before := slices.Clone(e)
			clear(e[:cap(e)])
			copy(e, before)
			if !same(p, want) {
				t.Errorf("%q: a list shares memory with another", text)
			}
		})
		for i, r := range p.Rules {
			sets := slices.Clone(r.Sets)
			clear(p.Rules[i].Sets[:cap(r.Sets)])
			copy(p.Rules[i].Sets, sets)
			if !same(p, want) {
				t.Errorf("%q: the sets of rule %d share memory", text, i)
			}
		}
	}
}
