package term_test

import (
	"fmt"
	"math"
	"slices"
	"testing"

	"selfstab/api"
	"selfstab/term"
)

// The operations by the number of their operands (P5.1), and the aggregates (P5.3).
var (
	alone = []int{
		api.Num, api.True, api.False, api.None, api.Own, api.Nodes, api.IDs, api.ID, api.Deg, api.Root,
		api.Here, api.Near, api.NearID, api.NearDeg, api.NearRoot, api.Weight, api.Back,
	}
	unary  = []int{api.Neg, api.Not, api.All, api.Some, api.CountOf, api.First, api.Min, api.Max, api.Sum, api.Mex, api.Second, api.Head}
	binary = []int{api.Mul, api.Div, api.Mod, api.Add, api.Sub, api.Eq, api.Ne, api.Lt, api.Le, api.Gt, api.Ge, api.And, api.Or}

	aggregates = []int{api.All, api.Some, api.CountOf, api.First, api.Min, api.Max, api.Sum, api.Mex, api.Second, api.Head}
)

// noOps are numbers that are no operations.
var noOps = []int{0, -1, -2, api.If + 1, api.If + 2, 64, 100, 255, 256 + api.Add, 1<<16 + api.Num, 1<<32 + api.Num, -api.If, math.MinInt, math.MaxInt}

// arity returns the number of operands by the lists above.
func arity(op int) int {
	for n, ops := range [][]int{alone, unary, binary, {api.If}} {
		if slices.Contains(ops, op) {
			return n
		}
	}
	return -1
}

// expr returns an operation with its operands.
func expr(op int, operands ...[]api.Term) []api.Term {
	return append([]api.Term{{Op: op}}, slices.Concat(operands...)...)
}

// with returns a term with an Arg.
func with(op, arg int) []api.Term { return []api.Term{{Op: op, Arg: arg}} }

func num(n int) []api.Term  { return with(api.Num, n) }
func own(i int) []api.Term  { return with(api.Own, i) }
func near(i int) []api.Term { return with(api.Near, i) }

// chain returns an expression with n times the operation op ahead of its end; only its operand k is longer than a term.
func chain(op, k, n int, end []api.Term) []api.Term {
	for range n {
		operands := [][]api.Term{num(1), num(2), num(3)}[:arity(op)]
		operands[k] = end
		end = expr(op, operands...)
	}
	return end
}

// sums returns a sum of n numbers of the least depth: 2n - 1 terms.
func sums(n int) []api.Term {
	if n == 1 {
		return num(n)
	}
	return expr(api.Add, sums(n/2), sums(n-n/2))
}

// lowest is the value of d in the program of chapter 8: min(q.d) < n ? min(q.d) + 1 : n.
func lowest() []api.Term {
	least := expr(api.Min, near(0))
	return expr(api.If, expr(api.Lt, least, expr(api.Nodes)), expr(api.Add, least, num(1)), expr(api.Nodes))
}

// mixed reads three variables by Own and two by Near, with aggregates in different operands and in one another.
func mixed() []api.Term {
	inner := expr(api.First, expr(api.Eq, near(1), expr(api.Back)))
	return expr(api.If, expr(api.And, own(0), expr(api.Not, own(5))), expr(api.Sum, expr(api.Mul, near(3), inner)), expr(api.Max, own(3)))
}

// lists are expressions, and lists that are none: shorter ones, longer ones, and some with terms that are no operations.
func lists() [][]api.Term {
	all := [][]api.Term{nil, {}, num(0), own(5), near(0), lowest(), mixed(), sums(5), expr(api.Add, num(1)), expr(api.If, num(1), num(2)), expr(api.Neg), slices.Concat(num(1), num(2))}
	for _, e := range [][]api.Term{lowest(), mixed()} {
		for i := range e {
			all = append(all, e[:i], e[i:], slices.Concat(e[:i], num(7), e[i:]), slices.Concat(e[:i], e[i+1:]))
			for _, op := range noOps {
				all = append(all, slices.Concat(e[:i], expr(op), e[i:]), slices.Concat(e[:i], expr(op), e[i+1:]))
			}
		}
		all = append(all, slices.Concat(e, e), slices.Concat(e, num(0)), slices.Concat(e, expr(api.Neg)), slices.Concat(e, expr(0)))
	}
	return all
}

// P5.1 to P5.3: the examples of the chapter, written out.
func TestExamples(t *testing.T) {
	e := []api.Term{{Op: api.Min}, {Op: api.Add}, {Op: api.Near, Arg: 0}, {Op: api.Num, Arg: 1}}
	got := []int{term.End(e, 0), term.End(e, 1), term.End(e, 2), term.Operand(e, 1, 1), term.Depth(e), term.Nest(e)}
	if want := []int{4, 4, 3, 3, 3, 1}; !slices.Equal(got, want) {
		t.Errorf("%v instead of %v", got, want)
	}
	if got := term.End([]api.Term{{Op: api.Add}, {Op: api.Num, Arg: 1}}, 0); got != -1 {
		t.Errorf("%d instead of -1", got)
	}
}

// P5.1
func TestArity(t *testing.T) {
	for op := -300; op <= 300; op++ {
		if got := term.Arity(op); got != arity(op) {
			t.Errorf("%d: %d instead of %d", op, got, arity(op))
		}
	}
	for _, op := range noOps {
		if got := term.Arity(op); got != -1 {
			t.Errorf("%d: %d instead of -1", op, got)
		}
	}
	counts := []int{term.Arity(1), term.Arity(17), term.Arity(18), term.Arity(29), term.Arity(30), term.Arity(42), term.Arity(43)}
	if want := []int{0, 0, 1, 1, 2, 2, 3}; !slices.Equal(counts, want) {
		t.Errorf("%v instead of %v", counts, want)
	}
}

// wantEnds checks End at each place of a list, and that it is -1 beside them.
func wantEnds(t *testing.T, e []api.Term, ends ...int) {
	t.Helper()
	for at, want := range ends {
		if got := term.End(e, at); got != want {
			t.Errorf("%v: %d instead of %d at place %d", e, got, want, at)
		}
	}
	n := len(e)
	for _, at := range []int{-1, -2, -n, -n - 1, n, n + 1, n + 2, 2 * n, 1 << 20, 1 << 32, math.MinInt, math.MinInt + 1, math.MaxInt, math.MaxInt - 1} {
		if got := term.End(e, at); got != -1 && (at < 0 || at >= n) {
			t.Errorf("%v: %d instead of -1 at place %d", e, got, at)
		}
	}
}

// P5.2
func TestEnd(t *testing.T) {
	wantEnds(t, nil)
	wantEnds(t, []api.Term{})
	wantEnds(t, num(7), 1)
	wantEnds(t, expr(api.Back), 1)
	wantEnds(t, slices.Concat(num(7), num(8)), 1, 2)
	wantEnds(t, expr(api.Neg), -1)
	wantEnds(t, expr(api.Neg, num(1)), 2, 2)
	wantEnds(t, expr(api.Neg, num(1), num(2)), 2, 2, 3)
	wantEnds(t, expr(api.Head, expr(api.Not)), -1, -1)
	wantEnds(t, expr(api.Or, num(1)), -1, 2)
	wantEnds(t, expr(api.Or, num(1), num(2)), 3, 2, 3)
	wantEnds(t, expr(api.Or, num(1), num(2), num(3)), 3, 2, 3, 4)
	wantEnds(t, expr(api.If, num(1), num(2)), -1, 2, 3)
	wantEnds(t, expr(api.If, num(1), num(2), num(3)), 4, 2, 3, 4)
	wantEnds(t, expr(api.If, num(1), num(2), num(3), num(4)), 4, 2, 3, 4, 5)
	wantEnds(t, expr(api.Sub, expr(api.Sub, num(1), num(2)), num(3)), 5, 4, 3, 4, 5)
	wantEnds(t, expr(api.Sub, num(1), expr(api.Sub, num(2), num(3))), 5, 2, 5, 4, 5)
	wantEnds(t, lowest(), 10, 5, 4, 4, 5, 9, 8, 8, 9, 10)
	wantEnds(t, lowest()[:9], -1, 5, 4, 4, 5, 9, 8, 8, 9)
}

// P5.2: terms without an Arity at the beginning, amidst and behind the expression.
func TestEndWithoutArity(t *testing.T) {
	for _, op := range noOps {
		bad := expr(op)
		wantEnds(t, bad, -1)
		wantEnds(t, slices.Concat(bad, num(1)), -1, 2)
		wantEnds(t, slices.Concat(num(1), bad), 1, -1)
		wantEnds(t, expr(api.Neg, bad), -1, -1)
		wantEnds(t, expr(api.Neg, bad, num(1)), -1, -1, 3)
		wantEnds(t, expr(api.Neg, num(1), bad), 2, 2, -1)
		wantEnds(t, expr(api.Add, bad, num(1), num(2)), -1, -1, 3, 4)
		wantEnds(t, expr(api.Add, num(1), bad, num(2)), -1, 2, -1, 4)
		wantEnds(t, expr(api.Add, num(1), num(2), bad), 3, 2, 3, -1)
		wantEnds(t, expr(api.If, num(1), num(2), bad, num(3)), -1, 2, 3, -1, 5)
	}
}

// wantOperands checks the places of the operands of the term at a place, and that there are no others.
func wantOperands(t *testing.T, e []api.Term, at int, places ...int) {
	t.Helper()
	for _, k := range []int{0, 1, 2, 3, 4, 5, -1, -2, -3, 24, 1 << 32, math.MinInt, math.MaxInt} {
		want := -1
		if k >= 0 && k < len(places) {
			want = places[k]
		}
		if got := term.Operand(e, at, k); got != want {
			t.Errorf("%v: operand %d of place %d at %d instead of %d", e, k, at, got, want)
		}
	}
}

// P5.2
func TestOperand(t *testing.T) {
	for at, places := range [][]int{{1, 5, 9}, {2, 4}, {3}, nil, nil, {6, 8}, {7}, nil, nil, nil} {
		wantOperands(t, lowest(), at, places...)
		wantOperands(t, slices.Concat(lowest(), num(1)), at, places...)
		wantOperands(t, slices.Concat(lowest(), expr(0)), at, places...)
	}
	for _, at := range []int{-1, -2, -10, 10, 11, 20, 1 << 32, math.MinInt, math.MaxInt} {
		wantOperands(t, lowest(), at)
		wantOperands(t, nil, at)
	}
	wantOperands(t, nil, 0)
	wantOperands(t, num(7), 0)
	wantOperands(t, expr(api.If, num(1), num(2), num(3)), 0, 1, 2, 3)
	wantOperands(t, expr(api.Not, num(1)), 0, 1)
	wantOperands(t, expr(api.Ge, expr(api.Neg, num(1)), num(2)), 0, 1, 3)
	wantOperands(t, slices.Concat(num(1), expr(api.Div, num(2), num(3))), 1, 2, 3)
}

// P5.2: no operand has a place if the term has no End, not even one that stands ahead of the error.
func TestOperandWithoutEnd(t *testing.T) {
	wantOperands(t, expr(api.Neg), 0)
	wantOperands(t, expr(api.Add, num(1)), 0)
	wantOperands(t, expr(api.If, num(1), num(2)), 0)
	wantOperands(t, lowest()[:9], 0)
	for _, op := range noOps {
		wantOperands(t, expr(op), 0)
		wantOperands(t, expr(op, num(1), num(2), num(3)), 0)
		wantOperands(t, expr(api.Add, num(1), expr(op)), 0)
		wantOperands(t, expr(api.If, num(1), num(2), expr(op), num(3)), 0)
		wantOperands(t, expr(api.Add, num(1), expr(op)), 2)
	}
}

// wantShape checks Depth and Nest.
func wantShape(t *testing.T, e []api.Term, depth, nest int) {
	t.Helper()
	if gotDepth, gotNest := term.Depth(e), term.Nest(e); gotDepth != depth || gotNest != nest {
		t.Errorf("%.99v: depth %d, nest %d instead of %d, %d", fmt.Sprint(e), gotDepth, gotNest, depth, nest)
	}
}

// P5.3
func TestDepthAndNest(t *testing.T) {
	for _, op := range alone {
		wantShape(t, expr(op), 1, 0)
	}
	for _, op := range slices.Concat(unary, binary, []int{api.If}) {
		nest := 0
		if slices.Contains(aggregates, op) {
			nest = 1
		}
		for k := range arity(op) {
			for _, n := range []int{1, 2, 3, api.MaxDepth - 1, api.MaxDepth, 300} {
				wantShape(t, chain(op, k, n, near(0)), n+1, n*nest)
				wantShape(t, chain(op, k, n, expr(api.Min, near(0))), n+2, n*nest+1)
			}
		}
	}
	wantShape(t, lowest(), 4, 1)
	wantShape(t, mixed(), 6, 2)
	wantShape(t, sums(100), 8, 0)
}

// P5.3: aggregates in different operands do not add up, and not only the deepest way counts.
func TestNestOnOneWay(t *testing.T) {
	x := near(0)
	one := expr(api.Max, x)
	two := expr(api.Mex, expr(api.Second, x))
	low := chain(api.Neg, 0, 9, x)
	wantShape(t, expr(api.Add, one, one), 3, 1)
	wantShape(t, expr(api.Add, two, one), 4, 2)
	wantShape(t, expr(api.Add, one, two), 4, 2)
	wantShape(t, expr(api.Add, low, two), 11, 2)
	wantShape(t, expr(api.Add, two, low), 11, 2)
	wantShape(t, expr(api.If, x, two, low), 11, 2)
	wantShape(t, expr(api.If, low, x, two), 11, 2)
	wantShape(t, expr(api.If, two, low, one), 11, 2)
	wantShape(t, expr(api.All, expr(api.And, low, two)), 12, 3)
	wantShape(t, expr(api.If, expr(api.Some, one), expr(api.Head, two), expr(api.First, low)), 12, 3)
	wantShape(t, expr(api.CountOf, expr(api.Neg, expr(api.Sum, expr(api.Not, x)))), 5, 2)
}

// P5.3: lists that are not exactly one expression.
func TestNoShape(t *testing.T) {
	for _, e := range lists() {
		if x, ok := parse(e, 0); !ok || x.end != len(e) {
			wantShape(t, e, 0, 0)
		}
	}
	wantShape(t, slices.Concat(num(1), num(2)), 0, 0)
	wantShape(t, slices.Concat(lowest(), num(2)), 0, 0)
	wantShape(t, slices.Concat(lowest(), expr(0)), 0, 0)
	wantShape(t, slices.Concat(num(2), lowest()), 0, 0)
	wantShape(t, lowest()[1:], 0, 0)
	wantShape(t, lowest()[:9], 0, 0)
	wantShape(t, chain(api.Min, 0, 3, nil), 0, 0)
}

// R1, P5.2 to P5.5: long lists, with as many levels as DOC.md promises.
func TestLongLists(t *testing.T) {
	const n = 1 << 16
	last := near(0)
	for _, op := range []int{api.Min, api.Add, api.If} {
		deep := slices.Concat(slices.Repeat(chain(op, arity(op)-1, 1, nil), n-1), last)
		nest := 0
		if op == api.Min {
			nest = n - 1
		}
		wantShape(t, deep, n, nest)
		wantShape(t, slices.Concat(deep, last), 0, 0)
		wantShape(t, deep[:len(deep)-1], 0, 0)
		if got := term.End(deep, 0); got != len(deep) {
			t.Errorf("%d: %d instead of %d", op, got, len(deep))
		}
		if got := term.Operand(deep, 0, arity(op)-1); got != arity(op) {
			t.Errorf("%d: the last operand at %d", op, got)
		}
		if own, near := term.Reads(deep); own != 0 || near != 0 || term.Valid(deep, 6) {
			t.Errorf("%d: %d and %d are read of a list of %d terms", op, own, near, len(deep))
		}
	}
	left := slices.Concat(slices.Repeat(expr(api.Sub), n-1), slices.Repeat(num(1), n))
	wantShape(t, left, n, 0)
	wantShape(t, sums(n), 17, 0)
	wantShape(t, slices.Repeat(num(1), n), 0, 0)
	wantShape(t, slices.Repeat(expr(api.If), n), 0, 0)
}

// wantValid checks Valid with this number of variables.
func wantValid(t *testing.T, name string, e []api.Term, vars int, want bool) {
	t.Helper()
	if got := term.Valid(e, vars); got != want {
		t.Errorf("%s, %d variables: %t", name, vars, got)
	}
}

// P5.4: exactly one expression.
func TestValid(t *testing.T) {
	for i, e := range lists() {
		x, ok := parse(e, 0)
		ok = ok && x.end == len(e) && x.nest <= api.MaxNest
		wantValid(t, fmt.Sprintf("list %d: %v", i, e), e, api.MaxVars, ok)
	}
	for _, op := range slices.Concat(alone, unary, binary, []int{api.If}) {
		whole := chain(op, 0, min(arity(op), 1), num(1))
		whole[0] = api.Term{Op: op} // without operands, the chain is its end alone
		wantValid(t, fmt.Sprint(whole), whole, 1, true)
		wantValid(t, fmt.Sprint(whole, " and one more"), slices.Concat(whole, num(1)), 1, false)
		wantValid(t, fmt.Sprint(whole, " less one"), whole[:len(whole)-1], 1, false)
	}
}

// P5.4: the limits of terms, levels and aggregates, and one more of each.
func TestValidLimits(t *testing.T) {
	x := near(0)
	most, more := expr(api.Neg, sums(100)), sums(101)
	if len(most) != api.MaxTerms || len(more) != api.MaxTerms+1 || term.Depth(most) > 9 || term.Depth(more) > 9 {
		t.Fatalf("%d and %d terms, %d and %d levels", len(most), len(more), term.Depth(most), term.Depth(more))
	}
	wantValid(t, "MaxTerms", most, 0, true)
	wantValid(t, "MaxTerms - 1", most[1:], 0, true)
	wantValid(t, "MaxTerms + 1", more, 0, false)
	wantValid(t, "MaxTerms + 2", expr(api.Neg, more), 0, false)
	wantValid(t, "2 MaxTerms + 1", expr(api.Add, most, most), 0, false)
	for _, op := range slices.Concat([]int{api.Neg, api.Not, api.If}, binary) {
		for k := range arity(op) {
			wantValid(t, fmt.Sprint("MaxDepth of ", op), chain(op, k, api.MaxDepth-1, x), 1, true)
			wantValid(t, fmt.Sprint("MaxDepth + 1 of ", op), chain(op, k, api.MaxDepth, x), 1, false)
		}
	}
	for _, op := range aggregates {
		wantValid(t, fmt.Sprint("MaxNest of ", op), chain(op, 0, api.MaxNest, x), 1, true)
		wantValid(t, fmt.Sprint("MaxNest + 1 of ", op), chain(op, 0, api.MaxNest+1, x), 1, false)
	}
	two := expr(api.Min, expr(api.Add, num(1), expr(api.Max, x)))
	wantValid(t, "aggregates side by side", expr(api.Add, two, expr(api.If, two, two, two)), 1, true)
	wantValid(t, "aggregates in one another", expr(api.Add, two, expr(api.If, two, two, expr(api.Head, two))), 1, false)
	wantValid(t, "aggregates under others", expr(api.Head, chain(api.Neg, 0, 9, expr(api.Sub, num(1), two))), 1, false)
}

// P5.4: the Arg of each operation, alone and as the last and as the first term of an expression.
func TestValidArgs(t *testing.T) {
	args := []int{0, 1, 2, 3, 4, 5, 6, 7, 24, 31, 32, 255, api.MaxNum - 1, api.MaxNum, api.MaxNum + 1, 1 << 31, 1 << 32, 1<<32 + 1, math.MaxInt - 1, math.MaxInt, -1, -2, -api.MaxNum, math.MinInt, math.MinInt + 1}
	for _, vars := range []int{0, 1, 2, 5, 6, 7, 31, 33, 1000, api.MaxNum, api.MaxNum + 2, math.MaxInt, -1, -2, -api.MaxNum, math.MinInt, math.MinInt + 1} {
		for _, arg := range args {
			for _, op := range slices.Concat(alone, unary, binary, []int{api.If}) {
				want := arg == 0
				switch op {
				case api.Num:
					want = arg >= 0 && arg <= api.MaxNum
				case api.Own, api.Near:
					want = arg >= 0 && arg < vars
				}
				e := chain(op, 0, min(arity(op), 1), num(1))
				e[0] = api.Term{Op: op, Arg: arg}
				name := fmt.Sprintf("operation %d with %d", op, arg)
				wantValid(t, name, e, vars, want)
				wantValid(t, name+" at the end", expr(api.If, num(1), num(2), e), vars, want)
				wantValid(t, name+" amidst", expr(api.If, num(1), e, num(2)), vars, want)
			}
		}
	}
}

// wantRenamed checks the result of Rename, and that the result is one expression again, of the same shape.
func wantRenamed(t *testing.T, e []api.Term, m []int, want []api.Term) {
	t.Helper()
	got, errno := term.Rename(e, m)
	if errno != api.OK || !slices.Equal(got, want) {
		t.Errorf("%v by %v: %v, %d instead of %v", e, m, got, errno, want)
		return
	}
	if !term.Valid(got, api.MaxVars) || term.Depth(got) != term.Depth(e) || term.Nest(got) != term.Nest(e) {
		t.Errorf("%v by %v: %v is another expression", e, m, got)
	}
}

// wantNotRenamed checks that Rename returns this error and no list (R5).
func wantNotRenamed(t *testing.T, e []api.Term, m []int, want api.Errno) {
	t.Helper()
	if got, errno := term.Rename(e, m); errno != want || got != nil {
		t.Errorf("%v by %v: %v, %d instead of error %d", e, m, got, errno, want)
	}
}

// P5.5 and the consequence: variables are renamed, all at once, and all that is no variable stays.
func TestRename(t *testing.T) {
	wantRenamed(t, own(0), []int{0}, own(0))
	wantRenamed(t, own(0), []int{5}, own(5))
	wantRenamed(t, near(0), []int{5}, near(5))
	wantRenamed(t, expr(api.Add, own(0), own(1)), []int{1, 0}, expr(api.Add, own(1), own(0)))
	wantRenamed(t, expr(api.Add, own(0), near(1)), []int{1, 2}, expr(api.Add, own(1), near(2)))
	wantRenamed(t, expr(api.Add, own(0), near(1)), []int{3, 3}, expr(api.Add, own(3), near(3)))
	wantRenamed(t, expr(api.If, own(0), near(0), own(0)), []int{4}, expr(api.If, own(4), near(4), own(4)))
	wantRenamed(t, lowest(), []int{2}, expr(api.If, expr(api.Lt, expr(api.Min, near(2)), expr(api.Nodes)), expr(api.Add, expr(api.Min, near(2)), num(1)), expr(api.Nodes)))
	e := expr(api.If, expr(api.And, own(0), near(5)), expr(api.If, own(1), own(2), near(3)), expr(api.Sub, own(4), num(4)))
	for shift := range api.MaxVars {
		m, want := make([]int, api.MaxVars), slices.Clone(e)
		for i := range m {
			m[i] = (5*i + shift) % api.MaxVars
		}
		for i, t := range e {
			if t.Op == api.Own || t.Op == api.Near {
				want[i].Arg = m[t.Arg]
			}
		}
		wantRenamed(t, e, m, want)
	}
}

// P5.5: an m that is longer than what is read, or shorter; without variables it may be empty.
func TestRenameByMore(t *testing.T) {
	wantRenamed(t, num(0), nil, num(0))
	wantRenamed(t, num(5), []int{}, num(5))
	wantRenamed(t, num(5), []int{1, 2, 3}, num(5))
	wantRenamed(t, num(1), []int{5, 4}, num(1))
	wantRenamed(t, num(api.MaxNum), []int{3}, num(api.MaxNum))
	wantRenamed(t, expr(api.Add, num(0), own(0)), []int{2}, expr(api.Add, num(0), own(2)))
	wantRenamed(t, own(0), []int{3, 0, 1, 2, 4, 5}, own(3))
	wantRenamed(t, own(1), []int{0, 0, 0, 0, 0, 0, 0}, own(0))
	wantRenamed(t, near(99), append(make([]int, 99), 4), near(4))
	for n := range api.MaxVars + 3 {
		wantNotRenamed(t, own(n), make([]int, n), api.ErrForm)
		wantNotRenamed(t, near(n), make([]int, n), api.ErrForm)
		wantRenamed(t, own(n), make([]int, n+1), own(0))
		wantRenamed(t, near(n), make([]int, n+1), near(0))
	}
	wantNotRenamed(t, own(-1), []int{0}, api.ErrForm)
	wantNotRenamed(t, own(0), nil, api.ErrForm)
}

// P5.5: the errors of Rename, in their order.
func TestNotRenamed(t *testing.T) {
	for _, bad := range []int{-1, -2, api.MaxVars, api.MaxVars + 1, 1 << 32, math.MinInt, math.MaxInt} {
		wantNotRenamed(t, own(0), []int{bad}, api.ErrRange)
		wantNotRenamed(t, near(0), []int{bad}, api.ErrRange)
		wantNotRenamed(t, own(0), []int{0, bad}, api.ErrRange)
		wantNotRenamed(t, own(1), []int{bad, 0}, api.ErrRange)
		wantNotRenamed(t, num(1), []int{bad}, api.ErrRange)
		wantNotRenamed(t, num(1), []int{0, 1, 2, 3, 4, 5, bad}, api.ErrRange)
		wantNotRenamed(t, own(1), []int{bad}, api.ErrForm)
		wantNotRenamed(t, nil, []int{bad}, api.ErrForm)
		wantNotRenamed(t, num(-1), []int{bad}, api.ErrForm)
	}
	for _, good := range []int{0, 1, api.MaxVars - 1} {
		wantRenamed(t, own(0), []int{good}, own(good))
	}
	for _, e := range [][]api.Term{
		nil, {}, expr(0), expr(api.Neg), slices.Concat(own(0), own(0)), num(api.MaxNum + 1), with(api.Root, 1), with(api.Near, -1),
		sums(101), chain(api.Neg, 0, api.MaxDepth, own(0)), chain(api.Min, 0, api.MaxNest+1, near(0)),
	} {
		wantNotRenamed(t, e, []int{0}, api.ErrForm)
		wantNotRenamed(t, e, []int{0, 9}, api.ErrForm)
	}
}

// wantReads checks the sets of variables that are read.
func wantReads(t *testing.T, e []api.Term, own, near uint32) {
	t.Helper()
	if gotOwn, gotNear := term.Reads(e); gotOwn != own || gotNear != near {
		t.Errorf("%.99v: %b and %b instead of %b and %b", fmt.Sprint(e), gotOwn, gotNear, own, near)
	}
}

// P5.5
func TestReads(t *testing.T) {
	for i := range api.MaxVars {
		wantReads(t, own(i), 1<<i, 0)
		wantReads(t, near(i), 0, 1<<i)
		wantReads(t, num(i), 0, 0)
		wantReads(t, expr(api.Add, own(i), near(i)), 1<<i, 1<<i)
		wantReads(t, expr(api.Add, near(i), own(i)), 1<<i, 1<<i)
		wantReads(t, expr(api.Add, own(i), own(i)), 1<<i, 0)
		for k := range api.MaxVars {
			wantReads(t, expr(api.If, own(i), near(k), num(1)), 1<<i, 1<<k)
			wantReads(t, expr(api.If, own(i), num(1), own(k)), 1<<i|1<<k, 0)
			wantReads(t, expr(api.If, num(1), near(i), near(k)), 0, 1<<i|1<<k)
		}
	}
	wantReads(t, lowest(), 0, 1)
	wantReads(t, mixed(), 0b101001, 0b1010)
	wantReads(t, expr(api.If, own(0), near(1), expr(api.Add, expr(api.Min, own(5)), expr(api.Max, near(3)))), 0b100001, 0b1010)
	wantReads(t, expr(api.Root), 0, 0)
}

// P5.5: of lists that are not Valid nothing is read.
func TestNothingRead(t *testing.T) {
	wantReads(t, nil, 0, 0)
	for _, arg := range []int{-1, api.MaxVars, api.MaxVars + 1, 31, 32, 64, math.MinInt, math.MaxInt} {
		wantReads(t, own(arg), 0, 0)
		wantReads(t, near(arg), 0, 0)
		wantReads(t, expr(api.Add, own(1), near(arg)), 0, 0)
		wantReads(t, expr(api.Add, near(1), own(arg)), 0, 0)
	}
	wantReads(t, expr(api.Add, own(1)), 0, 0)
	wantReads(t, slices.Concat(own(1), own(1)), 0, 0)
	wantReads(t, expr(api.Neg, own(1), expr(0)), 0, 0)
	wantReads(t, expr(api.Add, own(1), num(-1)), 0, 0)
	wantReads(t, expr(api.Add, own(1), with(api.Deg, 1)), 0, 0)
	wantReads(t, expr(api.Min, mixed()), 0, 0)
	wantReads(t, chain(api.Neg, 0, api.MaxDepth, own(1)), 0, 0)
	wantReads(t, expr(api.Add, own(1), sums(100)), 0, 0)
}

// tree is an expression as P5.2 and P5.3 define it.
type tree struct {
	end, depth, nest int
	operands         []int
}

// parse returns the expression that begins at a place, and whether there is one.
func parse(e []api.Term, at int) (tree, bool) {
	if at < 0 || at >= len(e) || arity(e[at].Op) < 0 {
		return tree{}, false
	}
	x := tree{end: at + 1}
	for range arity(e[at].Op) {
		operand, ok := parse(e, x.end)
		if !ok {
			return tree{}, false
		}
		x.operands = append(x.operands, x.end)
		x.end, x.depth, x.nest = operand.end, max(x.depth, operand.depth), max(x.nest, operand.nest)
	}
	x.depth++
	if slices.Contains(aggregates, e[at].Op) {
		x.nest++
	}
	return x, true
}

// checkPlaces compares End and Operand with the definition, at all places and beside them, and checks the consequence.
func checkPlaces(t *testing.T, e []api.Term) {
	t.Helper()
	for at := -1; at <= len(e)+1; at++ {
		x, ok := parse(e, at)
		if !ok {
			x = tree{end: -1}
		}
		if got := term.End(e, at); got != x.end {
			t.Errorf("%v: End %d of place %d instead of %d", e, got, at, x.end)
		}
		for k := -1; k <= 3; k++ {
			want := -1
			if k >= 0 && k < len(x.operands) {
				want = x.operands[k]
			}
			if got := term.Operand(e, at, k); got != want {
				t.Errorf("%v: operand %d of place %d at %d instead of %d", e, k, at, got, want)
			}
		}
		if ok && arity(e[at].Op) > 0 {
			checkRow(t, e, at)
		}
	}
}

// checkRow checks the consequence: the operands of the term at a place stand one behind the other.
func checkRow(t *testing.T, e []api.Term, at int) {
	t.Helper()
	place := at + 1
	for k := range arity(e[at].Op) {
		if got := term.Operand(e, at, k); got != place {
			t.Errorf("%v: operand %d of place %d at %d, not behind the one before it", e, k, at, got)
		}
		place = term.End(e, place)
	}
	if got := term.End(e, at); got != place {
		t.Errorf("%v: place %d ends at %d, and its last operand at %d", e, at, got, place)
	}
}

// checkWhole compares the functions of whole lists with their definitions.
func checkWhole(t *testing.T, e []api.Term) {
	t.Helper()
	x, ok := parse(e, 0)
	if !ok || x.end != len(e) {
		x = tree{}
	}
	wantShape(t, e, x.depth, x.nest)
	valid := x.depth > 0 && x.depth <= api.MaxDepth && x.nest <= api.MaxNest && len(e) <= api.MaxTerms
	var own, near uint32
	most := -1
	for _, t := range e {
		switch t.Op {
		case api.Own:
			own, most = own|1<<t.Arg, max(most, t.Arg)
		case api.Near:
			near, most = near|1<<t.Arg, max(most, t.Arg)
		}
	}
	if !valid {
		own, near = 0, 0
	}
	wantReads(t, e, own, near)
	m := []int{5, 3, 3, 0, 1, 2}
	for vars := range len(m) + 1 {
		fits := valid && most < vars
		if got := term.Valid(e, vars); got != fits {
			t.Errorf("%v, %d variables: %t", e, vars, got)
		}
		if !fits {
			wantNotRenamed(t, e, m[:vars], api.ErrForm)
			continue
		}
		want := slices.Clone(e)
		for i := range want {
			if want[i].Op == api.Own || want[i].Op == api.Near {
				want[i].Arg = m[want[i].Arg]
			}
		}
		wantRenamed(t, e, m[:vars], want)
	}
}

// P5.2 to P5.5 and the consequences: all lists of up to five terms of some.
func TestShortLists(t *testing.T) {
	terms := []api.Term{{Op: api.Num}, {Op: api.Own, Arg: 1}, {Op: api.Near, Arg: 4}, {Op: api.Back}, {Op: api.Neg}, {Op: api.All}, {Op: api.Head}, {Op: api.Mul}, {Op: api.If}, {Op: api.If + 1}}
	var extend func(e []api.Term)
	extend = func(e []api.Term) {
		checkPlaces(t, e)
		checkWhole(t, e)
		if len(e) == 5 || t.Failed() {
			return
		}
		for _, next := range terms {
			extend(append(e[:len(e):len(e)], next))
		}
	}
	extend(nil)
}

// P5.2 to P5.5 and the consequences: all lists that differ from ordinary ones in one operation, or that lack a term or have one more.
func TestChangedLists(t *testing.T) {
	all := lists()
	for _, e := range [][]api.Term{lowest(), mixed(), sums(9), chain(api.If, 2, 5, near(1)), chain(api.Min, 0, 2, own(2))} {
		for i := range e {
			for op := api.Num - 1; op <= api.If+1; op++ {
				changed := slices.Clone(e)
				changed[i] = api.Term{Op: op}
				all = append(all, changed)
			}
		}
	}
	for _, e := range all {
		checkPlaces(t, e)
		checkWhole(t, e)
	}
}

// calls calls every function with a list, and returns what they return.
func calls(e []api.Term, m []int) string {
	renamed, errno := term.Rename(e, m)
	own, near := term.Reads(e)
	places := []int{term.Depth(e), term.Nest(e)}
	for at := -1; at <= len(e); at++ {
		places = append(places, term.End(e, at), term.Operand(e, at, 0), term.Operand(e, at, 1), term.Operand(e, at, 2))
	}
	return fmt.Sprint(renamed, errno, own, near, places, term.Valid(e, len(m)))
}

// R2, R6: no function changes what it is given, or looks behind the end of a list, and the next call returns the same.
func TestArgumentsStay(t *testing.T) {
	for _, e := range append(lists(), own(1), expr(api.Add, near(0), own(1))) {
		terms := slices.Concat(e, num(1), own(0), near(0), num(1))
		list := terms[:len(e)]
		numbers := []int{4, 2, 0, 1, 5, 3, 9, -1}
		oldTerms, oldNumbers := slices.Clone(terms), slices.Clone(numbers)
		want := calls(slices.Clone(e), []int{4, 2, 0, 1, 5, 3})
		for range 2 {
			if got := calls(list, numbers[:6]); got != want {
				t.Errorf("%v: %s instead of %s", e, got, want)
			}
		}
		term.Rename(list, numbers[:7])
		term.Rename(list, numbers[:1])
		if !slices.Equal(terms, oldTerms) || !slices.Equal(numbers, oldNumbers) {
			t.Errorf("%v: an argument has changed", e)
		}
	}
}

// R2: what is written into a result is not seen in an argument or in another result.
func TestResultsAreNew(t *testing.T) {
	for _, m := range [][]int{{0}, {3}, {3, 4}} {
		for _, e := range [][]api.Term{num(4), own(0), lowest(), expr(api.Add, own(0), near(0))} {
			list := slices.Concat(e, num(77))[:len(e)]
			first, _ := term.Rename(list, m)
			second, _ := term.Rename(list, m)
			want := slices.Clone(second)
			clear(first[:cap(first)])
			if !slices.Equal(list[:len(e)+1], slices.Concat(e, num(77))) || !slices.Equal(second, want) || len(want) != len(e) {
				t.Errorf("%v by %v: a result shares memory", e, m)
			}
		}
	}
}

// R3: an empty list is no expression, nil or not, and an empty m renames nothing, nil or not.
func TestNilLists(t *testing.T) {
	spare := lowest()[:0]
	for _, e := range [][]api.Term{nil, {}, spare} {
		wantEnds(t, e)
		wantShape(t, e, 0, 0)
		wantReads(t, e, 0, 0)
		for _, vars := range []int{0, 1, 6, -1} {
			wantValid(t, "an empty list", e, vars, false)
		}
		for _, m := range [][]int{nil, {}, {0}, {9}} {
			wantNotRenamed(t, e, m, api.ErrForm)
		}
	}
}
