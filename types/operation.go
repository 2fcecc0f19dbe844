package types

import (
	"selfstab/api"
	"selfstab/term"
)

// same stands for a type that is open: it is that of the first operand for which same stands.
const same = api.Port + 1

// signature returns the types of the operands of an operation, and its own type.
func signature(op int) (operands [3]int, kind int) {
	switch op {
	case api.True, api.False, api.Root, api.NearRoot:
		return operands, api.Bool
	case api.None, api.Here, api.Back:
		return operands, api.Port
	case api.Not, api.All, api.Some:
		return [3]int{api.Bool}, api.Bool
	case api.CountOf:
		return [3]int{api.Bool}, api.Int
	case api.First:
		return [3]int{api.Bool}, api.Port
	case api.Neg, api.Min, api.Max, api.Sum, api.Mex, api.Second, api.Head:
		return [3]int{api.Int}, api.Int
	case api.Mul, api.Div, api.Mod, api.Add, api.Sub:
		return [3]int{api.Int, api.Int}, api.Int
	case api.Eq, api.Ne:
		return [3]int{same, same}, api.Bool
	case api.Lt, api.Le, api.Gt, api.Ge:
		return [3]int{api.Int, api.Int}, api.Bool
	case api.And, api.Or:
		return [3]int{api.Bool, api.Bool}, api.Bool
	case api.If:
		return [3]int{api.Bool, same, same}, same
	}
	return operands, api.Int
}

// ofNeighbour reports whether an operation needs a bound neighbour.
func ofNeighbour(op int) bool { return op >= api.Here && op <= api.Back }

// aggregate reports whether an operation binds a neighbour for its operand.
func aggregate(op int) bool { return op >= api.All && op <= api.Head }

// reader finds the type of an expression term by term.
type reader struct {
	terms []api.Term // those that are still to be read
	kinds []int      // of the variables
}

// typeOf returns the type of an expression that is term.Valid, or 0 if it has none.
func typeOf(e []api.Term, kinds []int, bound bool) int {
	r := reader{terms: e, kinds: kinds}
	return r.next(bound)
}

// next returns the type of the next expression, or 0 if it has none.
func (r *reader) next(bound bool) int {
	t := r.terms[0]
	r.terms = r.terms[1:]
	switch {
	case ofNeighbour(t.Op) && !bound:
		return 0
	case t.Op == api.Own || t.Op == api.Near:
		return r.kinds[t.Arg]
	}
	operands, kind := signature(t.Op)
	open, ok := r.operands(operands[:term.Arity(t.Op)], bound || aggregate(t.Op))
	switch {
	case !ok:
		return 0
	case kind == same:
		return open
	}
	return kind
}

// operands reports whether the next expressions have the wanted types, and returns the one for which same stands.
func (r *reader) operands(wanted []int, bound bool) (open int, ok bool) {
	for _, kind := range wanted {
		found := r.next(bound)
		if kind == same {
			if open == 0 {
				open = found
			}
			kind = open
		}
		if found == 0 || found != kind {
			return 0, false
		}
	}
	return open, true
}
