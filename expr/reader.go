package expr

import (
	"slices"

	"selfstab/api"
	"selfstab/cursor"
	"selfstab/lexer"
)

// reader reads an expression.
type reader struct {
	cursor.Cursor
	names []string
	terms []api.Term // what has been read, in prefix order
}

// take makes a term of the next token.
func (r *reader) take(op, arg int) {
	r.terms = append(r.terms, api.Term{Op: op, Arg: arg})
	r.Skip()
}

// takeAhead makes a term of the next token that stands ahead of the terms from a place on: they are its first operand.
func (r *reader) takeAhead(from, op int) {
	r.terms = slices.Insert(r.terms, from, api.Term{Op: op})
	r.Skip()
}

// choice reads an expression of any level.
func (r *reader) choice() {
	from := len(r.terms)
	r.joined(or)
	if r.Word() == "?" {
		r.takeAhead(from, api.If)
		r.choice()
		r.Expect(":")
		r.choice()
	}
}

// joined reads expressions of the next level with the signs of this one between them.
func (r *reader) joined(l int) {
	if l == unary {
		r.unary()
		return
	}
	from := len(r.terms)
	r.joined(l + 1)
	for op := r.sign(l); op != 0; op = r.sign(l) {
		r.takeAhead(from, op)
		r.joined(l + 1)
		if l == compare { // its second sign fits nowhere
			return
		}
	}
}

// sign returns the binary operation of a level that the next token is, or 0.
func (r *reader) sign(l int) int {
	op := operation(api.Mul, api.Or, r.Word())
	if level(op) != l {
		return 0
	}
	return op
}

// unary reads an expression of the level unary.
func (r *reader) unary() {
	op := operation(api.Neg, api.Not, r.Word())
	if op == 0 {
		r.primary()
		return
	}
	r.take(op, 0)
	r.unary()
}

// primary reads an expression of the level primary.
func (r *reader) primary() {
	word := r.Word()
	fact, aggregate := operation(api.True, api.Root, word), operation(api.All, api.Head, word)
	switch {
	case r.Next().Kind == api.TokenNumber:
		r.take(api.Num, r.Next().Num)
	case lexer.Name(word):
		r.variable(api.Own)
	case fact != 0:
		r.take(fact, 0)
	case word == "q":
		r.neighbour()
	case aggregate != 0:
		r.take(aggregate, 0)
		r.brackets()
	default:
		r.brackets()
	}
}

// variable reads a NAME for an operation on variables.
func (r *reader) variable(op int) {
	i := slices.Index(r.names, r.Word())
	if i < 0 {
		r.Fail(api.ErrName)
	}
	r.take(op, i)
}

// neighbour reads the bound neighbour or one of its fields.
func (r *reader) neighbour() {
	r.Expect("q")
	if !r.Accept(".") {
		r.terms = append(r.terms, api.Term{Op: api.Here})
		return
	}
	if lexer.Name(r.Word()) {
		r.variable(api.Near)
		return
	}
	field := operation(api.NearID, api.Back, "q."+r.Word())
	if field == 0 {
		r.Fail(api.ErrSyntax)
	}
	r.take(field, 0)
}

// brackets reads an expression of any level between brackets.
func (r *reader) brackets() {
	r.Expect("(")
	r.choice()
	r.Expect(")")
}
