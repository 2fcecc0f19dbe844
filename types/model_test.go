package types_test

import (
	"slices"
	"strings"

	"selfstab/api"
	"selfstab/expr"
	"selfstab/term"
)

// The types by their letters: i for Int, b for Bool, p for Port. A letter that is missing, 0, is no type.
var letters = map[byte]int{'i': api.Int, 'b': api.Bool, 'p': api.Port}

// table is that of P7.1: operations, and what they make of which operands.
var table = []struct {
	ops   []int
	types string
}{
	{[]int{api.Num, api.Nodes, api.IDs, api.ID, api.Deg, api.NearID, api.NearDeg, api.Weight}, ">i"},
	{[]int{api.True, api.False, api.Root, api.NearRoot}, ">b"},
	{[]int{api.None, api.Here, api.Back}, ">p"},
	{[]int{api.Neg}, "i>i"},
	{[]int{api.Not}, "b>b"},
	{[]int{api.All, api.Some}, "b>b"},
	{[]int{api.CountOf}, "b>i"},
	{[]int{api.First}, "b>p"},
	{[]int{api.Min, api.Max, api.Sum, api.Mex, api.Second, api.Head}, "i>i"},
	{[]int{api.Mul, api.Div, api.Mod, api.Add, api.Sub}, "ii>i"},
	{[]int{api.Eq, api.Ne}, "ii>b bb>b pp>b"},
	{[]int{api.Lt, api.Le, api.Gt, api.Ge}, "ii>b"},
	{[]int{api.And, api.Or}, "bb>b"},
	{[]int{api.If}, "bii>i bbb>b bpp>p"},
}

var (
	aggregates = []int{api.All, api.Some, api.CountOf, api.First, api.Min, api.Max, api.Sum, api.Mex, api.Second, api.Head}
	neighbours = []int{api.Here, api.Near, api.NearID, api.NearDeg, api.NearRoot, api.Weight, api.Back}
)

// made returns the letter of what an operation makes of operands with these letters, or 0.
func made(op int, operands string) byte {
	for _, row := range table {
		if !slices.Contains(row.ops, op) {
			continue
		}
		for _, form := range strings.Fields(row.types) {
			if from, to, _ := strings.Cut(form, ">"); from == operands {
				return to[0]
			}
		}
	}
	return 0
}

// model returns the letter of the type of the expression that begins at a place, or 0; vars are the letters of the variables.
func model(e []api.Term, at int, vars string, bound bool) byte {
	if slices.Contains(neighbours, e[at].Op) && !bound {
		return 0
	}
	if e[at].Op == api.Own || e[at].Op == api.Near {
		return vars[e[at].Arg]
	}
	var operands []byte
	for k := range term.Arity(e[at].Op) {
		inside := bound || slices.Contains(aggregates, e[at].Op)
		operands = append(operands, model(e, term.Operand(e, at, k), vars, inside))
	}
	return made(e[at].Op, string(operands))
}

// answer returns the results of Of by the model, for variables that have types.
func answer(e []api.Term, vars string, bound bool) (int, api.Errno) {
	if !term.Valid(e, len(vars)) {
		return 0, api.ErrForm
	}
	kind := letters[model(e, 0, vars, bound)]
	if kind == 0 {
		return 0, api.ErrType
	}
	return kind, api.OK
}

// kinds returns the types with these letters.
func kinds(vars string) []int {
	var all []int
	for i := range vars {
		all = append(all, letters[vars[i]])
	}
	return all
}

// join returns an operation with its operands.
func join(op int, operands ...[]api.Term) []api.Term {
	return append([]api.Term{{Op: op}}, slices.Concat(operands...)...)
}

func num(n int) []api.Term { return []api.Term{{Op: api.Num, Arg: n}} }

func own(i int) []api.Term { return []api.Term{{Op: api.Own, Arg: i}} }

// chain returns an expression with n times an operation of one operand ahead of its end.
func chain(op, n int, end []api.Term) []api.Term {
	for range n {
		end = join(op, end)
	}
	return end
}

// sums returns a sum of n numbers of the least depth: 2n - 1 terms.
func sums(n int) []api.Term {
	if n == 1 {
		return num(n)
	}
	return join(api.Add, sums(n/2), sums(n-n/2))
}

// names are those of the variables in the texts of the tests.
var names = []string{"d", "b", "p", "e", "c", "r"}

// read returns the expression of a text.
func read(text string) []api.Term {
	e, _, errno := expr.Parse(text, names)
	if errno != api.OK {
		panic(text)
	}
	return e
}

// roomy returns a copy of a list with spare room, in which stands more of the same kind.
func roomy[E any](list []E, more ...E) []E {
	return slices.Concat(list, more)[:len(list)]
}
