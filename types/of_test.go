package types_test

import (
	"math"
	"slices"
	"testing"

	"selfstab/api"
	"selfstab/term"
	"selfstab/types"
)

// wantOf checks the results of Of, and that it leaves its arguments as they are.
func wantOf(t *testing.T, e []api.Term, list []int, bound bool, kind int, errno api.Errno) {
	t.Helper()
	terms, vars := slices.Clone(e), slices.Clone(list)
	got, gotErrno := types.Of(terms, vars, bound)
	if got != kind || gotErrno != errno {
		t.Errorf("%v with %v, bound %v: %d, %d instead of %d, %d", e, list, bound, got, gotErrno, kind, errno)
	}
	if !slices.Equal(terms, e) || !slices.Equal(vars, list) {
		t.Errorf("%v with %v: changed to %v with %v", e, list, terms, vars)
	}
}

// wantModel checks that Of returns what the model does.
func wantModel(t *testing.T, e []api.Term, vars string, bound bool) {
	t.Helper()
	kind, errno := answer(e, vars, bound)
	wantOf(t, e, kinds(vars), bound, kind, errno)
}

// wantTyped checks the letter of the type of an expression by itself; 0 is ErrType. The variables have the types ibpibp.
func wantTyped(t *testing.T, e []api.Term, bound bool, letter byte) {
	t.Helper()
	if letter == 0 {
		wantOf(t, e, kinds("ibpibp"), bound, 0, api.ErrType)
	} else {
		wantOf(t, e, kinds("ibpibp"), bound, letters[letter], api.OK)
	}
}

// P7.1: the examples of the chapter, and some more.
func TestExamples(t *testing.T) {
	for _, x := range []struct {
		text         string
		alone, bound byte
	}{
		{"first(q.p == q.back)", 'p', 'p'}, {"q.d", 0, 'i'}, {"head(q.p)", 0, 0}, {"head(q.d)", 'i', 'i'},
		{"1", 'i', 'i'}, {"d", 'i', 'i'}, {"b", 'b', 'b'}, {"p", 'p', 'p'}, {"q", 0, 'p'}, {"q.b", 0, 'b'}, {"q.p", 0, 'p'},
		{"!root && d != (min(q.d) < n ? min(q.d) + 1 : n)", 'b', 'b'}, {"min(q.d) < n ? min(q.d) + 1 : n", 'i', 'i'},
		{"root && (d != 0 || p != none)", 'b', 'b'}, {"b ? 1 : 0", 'i', 'i'}, {"b ? p : none", 'p', 'p'}, {"d ? 1 : 0", 0, 0},
		{"count(q == p) + p", 0, 0}, {"count(q == p) + d", 'i', 'i'}, {"all(q.d)", 0, 0}, {"all(q.b && b)", 'b', 'b'}, {"-b", 0, 0}, {"!d", 0, 0},
		{"all(q.d < max(q.e)) && q.b", 0, 'b'}, {"all(q.d < max(q.e) && q.b)", 'b', 'b'}, {"p == d", 0, 0}, {"p < r", 0, 0}, {"p == r", 'b', 'b'},
	} {
		wantTyped(t, read(x.text), false, x.alone)
		wantTyped(t, read(x.text), true, x.bound)
	}
}

// samples are expressions of each type; none of them needs a bound neighbour.
var samples = map[byte][][]api.Term{
	'i': {num(0), own(0), read("deg"), read("d * 2 - e"), read("min(q.d)"), read("b ? 1 : d")},
	'b': {read("true"), own(1), read("root"), read("d < e"), read("p == r"), read("some(q.c)"), read("b ? c : false")},
	'p': {read("none"), own(2), read("first(q.root)"), read("b ? p : none")},
}

// P7.1: every row of the table with operands of each type.
func TestTable(t *testing.T) {
	for op := api.Num; op <= api.If; op++ {
		if op == api.Own || op == api.Near {
			continue
		}
		lists := []string{""}
		for range term.Arity(op) {
			var longer []string
			for _, x := range lists {
				longer = append(longer, x+"i", x+"b", x+"p")
			}
			lists = longer
		}
		for _, operands := range lists {
			wantRow(t, op, operands)
		}
	}
}

// wantRow checks an operation with operands of these types: each sample stands at each place, beside the first ones of the others.
func wantRow(t *testing.T, op int, operands string) {
	t.Helper()
	var parts [][]api.Term
	for k := range operands {
		parts = append(parts, samples[operands[k]][0])
	}
	wantFact(t, join(op, parts...), made(op, operands))
	for k := range operands {
		for _, sample := range samples[operands[k]] {
			others := slices.Clone(parts)
			others[k] = sample
			wantFact(t, join(op, others...), made(op, operands))
		}
	}
}

// wantFact checks the letter of the type of an expression where there is a bound neighbour, and if it needs none also without.
func wantFact(t *testing.T, e []api.Term, letter byte) {
	t.Helper()
	wantTyped(t, e, true, letter)
	if !slices.Contains(neighbours, e[0].Op) {
		wantTyped(t, e, false, letter)
	}
}

// P7.1: Own and Near have the type of their variable, whatever the others are.
func TestVariables(t *testing.T) {
	for _, vars := range []string{"i", "b", "p", "ib", "pi", "bbp", "pib", "ibpibp", "pppppi", "ipppbb"} {
		for i := range vars {
			wantOf(t, own(i), kinds(vars), false, letters[vars[i]], api.OK)
			wantOf(t, own(i), kinds(vars), true, letters[vars[i]], api.OK)
			near := []api.Term{{Op: api.Near, Arg: i}}
			wantOf(t, near, kinds(vars), false, 0, api.ErrType)
			wantOf(t, near, kinds(vars), true, letters[vars[i]], api.OK)
			for _, j := range []int{-1, -i, i, i + 1, len(vars), math.MinInt, math.MaxInt, 1<<32 + i} {
				wantModel(t, []api.Term{{Op: api.Own, Arg: j}}, vars, false)
				wantModel(t, []api.Term{{Op: api.Near, Arg: j}}, vars, true)
			}
		}
	}
}

// asBool and asInt return expressions of these types in which x stands twice.
func asBool(x []api.Term) []api.Term { return join(api.Eq, x, x) }

func asInt(x []api.Term) []api.Term { return join(api.If, asBool(x), num(1), num(2)) }

// over returns an aggregate over an expression in which x stands, and what it is.
func over(op int, x []api.Term) ([]api.Term, byte) {
	if letter := made(op, "i"); letter != 0 {
		return join(op, asInt(x)), letter
	}
	return join(op, asBool(x)), made(op, "b")
}

// P7.1: terms of a bound neighbour directly, in other operations, inside of aggregates and beside them.
func TestBound(t *testing.T) {
	for _, op := range neighbours {
		wantBound(t, []api.Term{{Op: op}})
	}
	for i := range api.MaxVars {
		wantBound(t, []api.Term{{Op: api.Near, Arg: i}})
	}
}

// wantBound checks a term of a bound neighbour wherever it can stand.
func wantBound(t *testing.T, x []api.Term) {
	t.Helper()
	yes := read("true")
	letter := model(x, 0, "ibpibp", true)
	wantTyped(t, x, false, 0)
	wantTyped(t, x, true, letter)
	wantTyped(t, asBool(x), false, 0)
	wantTyped(t, asBool(x), true, 'b')
	wantTyped(t, join(api.If, yes, x, x), false, 0)
	wantTyped(t, join(api.If, yes, x, x), true, letter)
	for _, a := range aggregates {
		wantInside(t, a, x)
		wantBeside(t, a, x)
	}
}

// wantInside checks that a term of a bound neighbour can stand everywhere inside of an aggregate.
func wantInside(t *testing.T, a int, x []api.Term) {
	t.Helper()
	e, letter := over(a, x)
	for _, bound := range []bool{false, true} {
		wantTyped(t, e, bound, letter)
		wantTyped(t, asBool(e), bound, 'b')
		wantTyped(t, join(api.Not, asBool(e)), bound, 'b')
		for _, b := range aggregates {
			outer, kind := over(b, e)
			wantTyped(t, outer, bound, kind)
			for _, both := range [][]api.Term{join(api.Or, asBool(e), asBool(x)), join(api.Or, asBool(x), asBool(e))} {
				outer, kind := over(b, both)
				wantTyped(t, outer, bound, kind)
			}
		}
	}
}

// wantBeside checks that a term of a bound neighbour cannot stand as an operand beside an aggregate, unless one is bound there.
func wantBeside(t *testing.T, a int, x []api.Term) {
	t.Helper()
	yes := read("true")
	inner, _ := over(a, x)
	twice, _ := over(api.All, inner)
	for _, e := range [][]api.Term{inner, twice} {
		for _, both := range [][]api.Term{
			join(api.And, asBool(e), asBool(x)), join(api.And, asBool(x), asBool(e)),
			join(api.If, asBool(x), asBool(e), yes), join(api.If, yes, asBool(e), asBool(x)),
			join(api.If, asBool(e), asBool(x), yes), join(api.If, asBool(e), yes, asBool(x)),
		} {
			wantTyped(t, both, false, 0)
			wantTyped(t, both, true, 'b')
		}
	}
}

// P7.1: lists of variables that are none, with expressions that read them or not, of a type or not, valid or not.
func TestKinds(t *testing.T) {
	expressions := [][]api.Term{num(1), own(0), own(5), read("d + 1"), read("!d"), read("q.d"), read("min(q.d)"), nil, join(api.Not), slices.Concat(num(1), num(2))}
	for _, e := range expressions {
		for _, n := range []int{7, 8, 12, 24, 1000} {
			wantOf(t, e, slices.Repeat([]int{api.Int}, n), true, 0, api.ErrForm)
		}
		for _, n := range []int{1, 2, 6} {
			for at := range n {
				for _, bad := range []int{0, -1, -2, -3, 4, 5, 255, math.MinInt, math.MaxInt, 1<<32 + 1, 1<<16 + 2, 1<<8 + 3} {
					list := slices.Repeat([]int{api.Int}, n)
					list[at] = bad
					wantOf(t, e, list, false, 0, api.ErrForm)
					wantOf(t, e, list, true, 0, api.ErrForm)
				}
			}
		}
	}
	wantOf(t, num(1), nil, false, api.Int, api.OK)
	wantOf(t, num(1), []int{}, false, api.Int, api.OK)
	wantOf(t, read("true"), slices.Repeat([]int{api.Port}, api.MaxVars), false, api.Bool, api.OK)
	wantOf(t, own(5), slices.Repeat([]int{api.Port}, api.MaxVars), false, api.Port, api.OK)
}

// P7.1: lists that are not term.Valid. ErrForm is told also where an operand ahead of the fault has another type.
func TestNotValid(t *testing.T) {
	wrong := read("!d")
	for _, bound := range []bool{false, true} {
		for _, e := range [][]api.Term{
			nil, {}, join(0), join(api.If + 1), join(-1), join(math.MinInt), join(math.MaxInt),
			join(api.Not), join(api.Add, num(1)), join(api.If, own(1), num(1)), slices.Concat(num(1), num(1)),
			num(-1), num(api.MaxNum + 1), {{Op: api.True, Arg: 1}}, {{Op: api.Not, Arg: 1}, {Op: api.True}}, {{Op: api.Here, Arg: -1}},
			own(-1), own(3), own(6), {{Op: api.Near, Arg: 3}}, {{Op: api.Near, Arg: -1}},
			chain(api.Neg, api.MaxDepth, num(1)), chain(api.Min, 3, num(1)), chain(api.All, 3, own(1)), append(sums(100), num(1)...), join(api.Neg, sums(101)),
			slices.Repeat(num(1), 1<<16), slices.Repeat(join(api.Neg), 1<<16), join(api.Not, sums(1<<12)),
			slices.Concat(wrong, num(1)), join(api.And, wrong), join(api.And, wrong, own(3)), join(api.Add, own(1), num(-1)), join(api.Eq, wrong, join(99)),
			chain(api.Not, api.MaxDepth, num(1)), chain(api.All, 3, num(1)), slices.Concat(read("q.d"), num(1)), join(api.And, own(2), chain(api.Some, 3, own(1))),
		} {
			wantOf(t, e, kinds("ibp"), bound, 0, api.ErrForm)
		}
	}
	wantOf(t, nil, nil, false, 0, api.ErrForm)
	wantOf(t, own(0), nil, false, 0, api.ErrForm)
}

// P7.1: expressions at the limits have types.
func TestLimits(t *testing.T) {
	wantTyped(t, chain(api.Neg, api.MaxDepth-1, num(api.MaxNum)), false, 'i')
	wantTyped(t, chain(api.Not, api.MaxDepth-1, own(1)), false, 'b')
	wantTyped(t, chain(api.Not, api.MaxDepth-1, own(0)), false, 0)
	wantTyped(t, chain(api.Min, api.MaxNest, own(0)), false, 'i')
	wantTyped(t, chain(api.All, api.MaxNest, own(0)), false, 0)
	most := join(api.Neg, sums(100))
	wantTyped(t, most, false, 'i')
	for i := range most {
		if most[i].Op == api.Num {
			other := slices.Clone(most)
			other[i] = api.Term{Op: api.Own, Arg: 1}
			wantTyped(t, other, false, 0)
		}
	}
}

// expressions returns all expressions of each number of terms up to most, of the terms given.
func expressions(of []api.Term, most int) [][][]api.Term {
	all := make([][][]api.Term, most+1)
	for n := 1; n <= most; n++ {
		for _, t := range of {
			all[n] = append(all[n], behind([]api.Term{t}, term.Arity(t.Op), n-1, all)...)
		}
	}
	return all
}

// behind returns the list with all expressions behind it, so many and of so many terms together.
func behind(list []api.Term, missing, terms int, all [][][]api.Term) [][]api.Term {
	if missing == 0 {
		if terms == 0 {
			return [][]api.Term{list}
		}
		return nil
	}
	var longer [][]api.Term
	for n := 1; n <= terms-missing+1; n++ {
		for _, e := range all[n] {
			longer = append(longer, behind(slices.Concat(list, e), missing-1, terms-n, all)...)
		}
	}
	return longer
}

// P7.1: all expressions of up to five terms, with an operation of each row.
func TestAllExpressions(t *testing.T) {
	of := []api.Term{
		{Op: api.Num, Arg: 1}, {Op: api.True}, {Op: api.None}, {Op: api.Own}, {Op: api.Own, Arg: 1}, {Op: api.Near, Arg: 2}, {Op: api.Weight}, {Op: api.Here},
		{Op: api.Neg}, {Op: api.Not}, {Op: api.Some}, {Op: api.CountOf}, {Op: api.First}, {Op: api.Min},
		{Op: api.Add}, {Op: api.Ne}, {Op: api.Lt}, {Op: api.Or}, {Op: api.If},
	}
	for _, list := range expressions(of, 5) {
		for _, e := range list {
			wantModel(t, e, "ibp", false)
			wantModel(t, e, "ibp", true)
		}
	}
}

// P7.1: all lists of up to four terms, also those that are no expressions.
func TestAllLists(t *testing.T) {
	of := []api.Term{
		{Op: api.Num}, {Op: api.True}, {Op: api.None}, {Op: api.Near}, {Op: api.Own, Arg: 1}, {Op: api.Own, Arg: 2},
		{Op: api.Not}, {Op: api.Max}, {Op: api.Eq}, {Op: api.If}, {Op: 99}, {},
	}
	lists := [][]api.Term{nil}
	for range 4 {
		var longer [][]api.Term
		for _, list := range lists {
			wantModel(t, list, "pb", false)
			wantModel(t, list, "pb", true)
			for _, x := range of {
				longer = append(longer, slices.Concat(list, []api.Term{x}))
			}
		}
		lists = longer
	}
	for _, list := range lists {
		wantModel(t, list, "pb", false)
	}
}

// P7.1: an ordinary expression with another operation, or another variable, at each place.
func TestOneTermChanged(t *testing.T) {
	for _, text := range []string{
		"!root && d != (min(q.d) < n ? min(q.d) + 1 : n) || p != first(q.d == d - q.weight && q.p == q.back)",
		"b ? all(q.c == (q.d + 1 > d) || q != p) && d == count(q.id < id) : some(sum(q.d) == -e / 2 && none == q.r)",
	} {
		e := read(text)
		for at := range e {
			for op := api.Num; op <= api.If; op++ {
				for arg := range 6 {
					changed := slices.Clone(e)
					changed[at] = api.Term{Op: op, Arg: arg}
					wantModel(t, changed, "ibpibp", false)
					wantModel(t, changed, "ibpibp", true)
				}
			}
		}
	}
}

// Consequences: other values of numbers leave the type, or the error, as it is.
func TestNumbersDoNotCount(t *testing.T) {
	for _, text := range []string{"1", "d + 1 * 2", "b == (1 < 2)", "min(q.d) < 3 ? min(q.d) + 1 : 7", "count(q.d == 0) / 0 > 1 && all(q.id % 5 != 1)", "0 && b", "1 == p", "q.d + 1", "b ? 1 : p"} {
		e := read(text)
		for _, bound := range []bool{false, true} {
			kind, errno := answer(e, "ibpibp", bound)
			for at := range e {
				for _, n := range []int{0, 1, 2, 3, 255, 4096, api.MaxNum - 1, api.MaxNum} {
					if e[at].Op == api.Num {
						e[at].Arg = n
						wantOf(t, e, kinds("ibpibp"), bound, kind, errno)
					}
				}
			}
		}
	}
}

// R2: what stands behind the ends of the lists counts for nothing, and stays as it is.
func TestSpareRoom(t *testing.T) {
	e := roomy(read("min(q.d) + 1"), join(api.If)...)
	vars := roomy(kinds("ibp"), 0, -1, 4, 1, 1, 1, 1)
	wantTyped(t, e, false, 'i')
	if kind, errno := types.Of(e, vars, false); kind != api.Int || errno != api.OK {
		t.Errorf("%d, %d", kind, errno)
	}
	if kind, errno := types.Of(own(3), vars, false); kind != 0 || errno != api.ErrForm {
		t.Errorf("a variable in the spare room: %d, %d", kind, errno)
	}
	if kind, errno := types.Of(roomy(join(api.Not), own(1)...), vars, false); kind != 0 || errno != api.ErrForm {
		t.Errorf("an operand in the spare room: %d, %d", kind, errno)
	}
	if rest := e[len(e):cap(e)][0]; rest.Op != api.If {
		t.Errorf("changed to %v", rest)
	}
	if rest := vars[3:10]; !slices.Equal(rest, []int{0, -1, 4, 1, 1, 1, 1}) {
		t.Errorf("changed to %v", rest)
	}
}
