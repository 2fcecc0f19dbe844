package expr_test

import (
	"fmt"
	"math"
	"slices"
	"strings"
	"testing"

	"selfstab/api"
	"selfstab/expr"
	"selfstab/term"
)

// wantText checks that an expression has this text, and that it is read back.
func wantText(t *testing.T, e []api.Term, names []string, want string) {
	t.Helper()
	if got, errno := expr.Format(e, names); got != want || errno != api.OK {
		t.Errorf("%.99v with %.99q: %.99q, %d instead of %.99q", fmt.Sprint(e), names, got, errno, want)
	}
	if got, at, errno := expr.Parse(want, names); !slices.Equal(got, e) || at != 0 || errno != api.OK {
		t.Errorf("%.99q is read as %.99v, %d, %d instead of %.99v", want, fmt.Sprint(got), at, errno, fmt.Sprint(e))
	}
}

// wantNoText checks that there is this error instead of a text.
func wantNoText(t *testing.T, e []api.Term, names []string, want api.Errno) {
	t.Helper()
	if got, errno := expr.Format(e, names); got != "" || errno != want {
		t.Errorf("%.99v with %.99q: %.99q, %d instead of %d", fmt.Sprint(e), names, got, errno, want)
	}
}

// checkShown checks that a valid expression has the text that the sentences of P6.2 give it, and the consequences.
func checkShown(t *testing.T, e []api.Term, names []string) {
	t.Helper()
	text, _ := shown(e, names)
	wantText(t, e, names, text)
	tokens := words(text)
	if got := spaced(tokens); got != text {
		t.Errorf("%q is not spaced as %q", text, got)
	}
	for i := range tokens {
		if tokens[i] == "(" && (i == 0 || aggregates[tokens[i-1]] == 0) {
			checkBracket(t, e, names, tokens, i)
		}
	}
}

// checkBracket checks that the expression is another one, or none, without the brackets that open at a place.
func checkBracket(t *testing.T, e []api.Term, names, tokens []string, from int) {
	t.Helper()
	open := 0
	for i := from; i < len(tokens); i++ {
		switch tokens[i] {
		case "(":
			open++
		case ")":
			open--
		}
		if open == 0 {
			less := spaced(slices.Concat(tokens[:from], tokens[from+1:i], tokens[i+1:]))
			if got, _, errno := expr.Parse(less, names); errno == api.OK && slices.Equal(got, e) {
				t.Errorf("%q has brackets that %q does not need", spaced(tokens), less)
			}
			return
		}
	}
}

// P6.2: the examples of the chapter, written out.
func TestFormatExamples(t *testing.T) {
	wantText(t, []api.Term{{Op: api.Add}, {Op: api.Min}, {Op: api.Near, Arg: 0}, {Op: api.Num, Arg: 1}}, two, "min(q.d) + 1")
	for text, want := range map[string]string{
		"min(q.d)+1": "min(q.d) + 1", "(d ? 1 : 2) ? 3 : 4": "(d ? 1 : 2) ? 3 : 4", "d ? 1 : (d ? 2 : 3)": "d ? 1 : d ? 2 : 3", "- - d": "--d",
		"!root&&d!=(min(q.d)<n?min(q.d)+1:n)": "!root && d != (min(q.d) < n ? min(q.d) + 1 : n)",
		"root&&((d!=0)||(p!=none))":           "root && (d != 0 || p != none)",
		"d ? (1 ? 2 : 3) : 4":                 "d ? 1 ? 2 : 3 : 4",
		"(d - p) - (1 - 2)":                   "d - p - (1 - 2)",
		"(d < p) == (1 < 2)":                  "(d < p) == (1 < 2)",
		"-(-(d)) - (-p)":                      "--d - -p",
	} {
		e, _, _ := expr.Parse(text, two)
		wantText(t, e, two, want)
	}
}

// P6.2: all terms without operands.
func TestFormatLeaves(t *testing.T) {
	for word, op := range leaves {
		wantText(t, tree(op), nil, word)
		wantText(t, tree(op), six, word)
	}
	for i, name := range six {
		wantText(t, own(i), six, name)
		wantText(t, near(i), six, "q."+name)
	}
	for n, want := range map[int]string{0: "0", 1: "1", 9: "9", 10: "10", 4096: "4096", api.MaxNum - 1: "1073741823", api.MaxNum: "1073741824"} {
		wantText(t, num(n), two, want)
		wantText(t, tree(api.Neg, num(n)), two, "-"+want)
		wantText(t, tree(api.Sub, num(n), tree(api.Neg, num(n))), two, want+" - -"+want)
	}
}

// P6.2: all operations with operands that need no brackets.
func TestFormatOperations(t *testing.T) {
	for sign, op := range unaries {
		wantText(t, tree(op, own(0)), two, sign+"d")
	}
	for word, op := range aggregates {
		wantText(t, tree(op, near(0)), two, word+"(q.d)")
	}
	for _, group := range binaries {
		for sign, op := range group {
			wantText(t, tree(op, own(0), near(1)), two, "d "+sign+" q.p")
		}
	}
	wantText(t, tree(api.If, own(0), own(1), num(1)), two, "d ? p : 1")
}

// columns are the places of operands: If, the binary rules from the loosest to the tightest, - and !, and an aggregate.
var columns = [][]int{
	{api.If},
	{api.Or},
	{api.And},
	{api.Eq, api.Ne, api.Lt, api.Le, api.Gt, api.Ge},
	{api.Add, api.Sub},
	{api.Mul, api.Div, api.Mod},
	{api.Neg, api.Not},
	{api.All, api.Some, api.CountOf, api.First, api.Min, api.Max, api.Sum, api.Mex, api.Second, api.Head},
}

// brackets are, for each kind of operand, the places at which it stands in brackets. The columns are the operands of
// If, ||, &&, comparisons, + -, * / %, - !, and aggregates.
var brackets = []struct {
	ops   []int
	table string
}{
	{columns[0], "x.. xx xx xx xx xx x ."},
	{columns[1], "... .x xx xx xx xx x ."},
	{columns[2], "... .. .x xx xx xx x ."},
	{columns[3], "... .. .. xx xx xx x ."},
	{columns[4], "... .. .. .. .x xx x ."},
	{columns[5], "... .. .. .. .. .x x ."},
	{columns[6], "... .. .. .. .. .. . ."},
	{columns[7], "... .. .. .. .. .. . ."},
	{[]int{api.Num, api.True, api.None, api.Own, api.Root, api.Here, api.Near, api.NearID, api.Back}, "... .. .. .. .. .. . ."},
}

// sample returns an expression of an operation with operands of which none is like another, and its text.
func sample(op int) ([]api.Term, string) {
	operands := [][]api.Term{near(0), own(1), num(5)}
	e := tree(op, operands[:term.Arity(op)]...)
	text, _ := shown(e, two)
	return e, text
}

// P6.2: each kind of operand at each place of each operation.
func TestBracketTable(t *testing.T) {
	for _, row := range brackets {
		for i, places := range strings.Fields(row.table) {
			for _, op := range columns[i] {
				for _, operand := range row.ops {
					for k := range places {
						wantBracket(t, op, operand, k, places[k] == 'x')
					}
				}
			}
		}
	}
}

// wantBracket checks whether operand k of an operation stands in brackets if it is this operation.
func wantBracket(t *testing.T, op, operand, k int, bracket bool) {
	t.Helper()
	e, text := sample(operand)
	if bracket {
		text = "(" + text + ")"
	}
	operands := [][]api.Term{num(1), num(2), num(3)}[:term.Arity(op)]
	texts := []string{"1", "2", "3"}
	operands[k], texts[k] = e, text
	want := ""
	switch {
	case op == api.If:
		want = texts[0] + " ? " + texts[1] + " : " + texts[2]
	case len(operands) == 2:
		want = texts[0] + " " + key(binaries[rank(op)-1], op) + " " + texts[1]
	case op == api.Neg || op == api.Not:
		want = key(unaries, op) + texts[0]
	default:
		want = key(aggregates, op) + "(" + texts[0] + ")"
	}
	wantText(t, tree(op, operands...), two, want)
}

// P6.2: names that are not good, and lists that are no valid expression with these variables.
func TestFormatErrors(t *testing.T) {
	for _, names := range badNames {
		wantNoText(t, num(1), names, api.ErrForm)
		wantNoText(t, own(0), names, api.ErrForm)
		wantNoText(t, nil, names, api.ErrForm)
	}
	_, long := balanced(101)
	for _, e := range [][]api.Term{
		nil, {}, tree(0), tree(-1), tree(api.If + 1), tree(math.MinInt), tree(math.MaxInt), tree(api.Neg), tree(api.Add, num(1)), tree(api.If, num(1), num(2)),
		slices.Concat(num(1), num(2)), tree(api.Neg, tree(99)), num(-1), num(api.MaxNum + 1), num(math.MaxInt), {{Op: api.Root, Arg: 1}}, {{Op: api.Neg, Arg: 2}, {Op: api.True}},
		own(-1), near(-1), own(6), near(6), own(math.MaxInt), near(math.MinInt), long, slices.Repeat(num(1), 999),
		append(slices.Repeat(tree(api.Neg), api.MaxDepth), num(1)...), append(slices.Repeat(tree(api.Min), api.MaxNest+1), near(0)...),
	} {
		wantNoText(t, e, two, api.ErrForm)
		wantNoText(t, e, six, api.ErrForm)
		wantNoText(t, tree(api.Add, own(0), e), two, api.ErrForm)
	}
}

// P6.2: variables that have no name.
func TestFormatWithoutName(t *testing.T) {
	for n := range len(six) + 1 {
		for i := range api.MaxVars {
			for _, e := range [][]api.Term{own(i), near(i), tree(api.Add, num(1), own(i)), tree(api.Min, near(i))} {
				if i >= n {
					wantNoText(t, e, six[:n], api.ErrForm)
				} else {
					checkShown(t, e, six[:n])
				}
			}
		}
	}
}

// P6.2: the greatest expressions. None has a text of more than MaxText bytes, so that there is no ErrLimit: a term has
// at most the bytes of "q.", a long name and its brackets, or those of an aggregate or a choice and their brackets.
func TestFormatLimits(t *testing.T) {
	if most := len("(q.)") + api.MaxName; most*api.MaxTerms > api.MaxText {
		t.Errorf("an expression may have %d bytes", most*api.MaxTerms)
	}
	_, sum := balanced(100)
	wide := tree(api.Neg, sum)
	for i := range wide {
		if wide[i].Op == api.Num {
			wide[i] = api.Term{Op: api.Near, Arg: 5}
		}
		if wide[i].Op == api.Add && i%2 == 0 {
			wide[i].Op = api.Or
		}
	}
	checkShown(t, wide, six)
	for _, op := range []int{api.Neg, api.Not} {
		checkShown(t, append(slices.Repeat(tree(op), api.MaxDepth-1), near(4)...), six)
	}
	for _, group := range binaries {
		for _, op := range group {
			left, right := near(4), near(5)
			for range api.MaxDepth - 1 {
				left, right = tree(op, left, own(0)), tree(op, own(0), right)
			}
			checkShown(t, left, six)
			checkShown(t, right, six)
		}
	}
	choice := own(4)
	for range api.MaxDepth - 1 {
		choice = tree(api.If, choice, near(5), own(5))
	}
	checkShown(t, choice, six)
}

// shapes returns all expressions of n terms of some operations, given all shorter ones.
func shapes(shorter [][][]api.Term, n int) [][]api.Term {
	if n == 1 {
		return [][]api.Term{own(0), num(1)}
	}
	var all [][]api.Term
	for _, op := range []int{api.Neg, api.Not, api.Min} {
		for _, a := range shorter[n-1] {
			all = append(all, tree(op, a))
		}
	}
	for k := 1; k < n-1; k++ {
		for _, a := range shorter[k] {
			for _, b := range shorter[n-1-k] {
				for _, op := range []int{api.Or, api.And, api.Eq, api.Lt, api.Add, api.Sub, api.Mul, api.Mod} {
					all = append(all, tree(op, a, b))
				}
			}
		}
	}
	for k := 1; k < n-2; k++ {
		for m := 1; k+m < n-1; m++ {
			for _, a := range shorter[k] {
				for _, b := range shorter[m] {
					for _, c := range shorter[n-1-k-m] {
						all = append(all, tree(api.If, a, b, c))
					}
				}
			}
		}
	}
	return all
}

// P6.2 and the consequences: all expressions of up to six terms of some operations.
func TestShortExpressions(t *testing.T) {
	all := [][][]api.Term{nil}
	for n := 1; n <= 6 && !t.Failed(); n++ {
		all = append(all, shapes(all, n))
		for _, e := range all[n] {
			if term.Valid(e, len(two)) {
				checkShown(t, e, two)
			} else {
				wantNoText(t, e, two, api.ErrForm)
			}
		}
	}
}

// R2, R6: Format changes nothing that it is given, and does not look behind the end of a list.
func TestFormatLeavesArguments(t *testing.T) {
	for _, e := range [][]api.Term{own(1), tree(api.Add, near(0), own(1)), tree(api.Neg), nil, own(2)} {
		terms := slices.Concat(e, num(1), own(0), tree(api.Neg))
		names := []string{"d", "p", "p", ""}
		want, wantErrno := expr.Format(slices.Clone(e), []string{"d", "p"})
		for range 2 {
			if got, errno := expr.Format(terms[:len(e)], names[:2]); got != want || errno != wantErrno {
				t.Errorf("%v: %q, %d instead of %q, %d", e, got, errno, want, wantErrno)
			}
		}
		expr.Format(terms[:len(e)], names[:3])
		if !slices.Equal(terms, slices.Concat(e, num(1), own(0), tree(api.Neg))) || !slices.Equal(names, []string{"d", "p", "p", ""}) {
			t.Errorf("%v: an argument has changed", e)
		}
	}
}
