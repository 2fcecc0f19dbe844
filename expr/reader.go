package expr

import (
	"slices"

	"selfstab/api"
	"selfstab/lexer"
)

// reader reads an expression from the tokens of a text.
type reader struct {
	text   string
	tokens []api.Token // those that are still to be read
	names  []string
	terms  []api.Term // what has been read, in prefix order
}

// fault is what the reader throws at the first error.
type fault struct {
	at    int
	errno api.Errno
}

// fail throws an error at the place of the next token.
func (r *reader) fail(e api.Errno) { panic(fault{at: r.next().At, errno: e}) }

// whole reads all tokens as one expression, and returns the first error.
func (r *reader) whole() (at int, errno api.Errno) {
	defer func() {
		switch thrown := recover().(type) {
		case nil:
		case fault:
			at, errno = thrown.at, thrown.errno
		default: // nothing else is thrown on purpose, but no panic may leave Parse
			at, errno = r.next().At, api.ErrSyntax
		}
	}()
	r.choice()
	if len(r.tokens) > 0 {
		r.fail(api.ErrSyntax)
	}
	return 0, api.OK
}

// next returns the next token. Behind the last one there is an empty one, at the end of the text.
func (r *reader) next() api.Token {
	if len(r.tokens) == 0 {
		return api.Token{At: len(r.text), End: len(r.text)}
	}
	return r.tokens[0]
}

// word returns the next token as it stands in the text.
func (r *reader) word() string {
	t := r.next()
	return r.text[t.At:t.End]
}

// accept passes over the next token if it is this one, and reports whether it is.
func (r *reader) accept(word string) bool {
	if r.word() != word {
		return false
	}
	r.tokens = r.tokens[1:]
	return true
}

// expect passes over the next token, which has to be this one.
func (r *reader) expect(word string) {
	if !r.accept(word) {
		r.fail(api.ErrSyntax)
	}
}

// take makes a term of the next token.
func (r *reader) take(op, arg int) {
	r.terms = append(r.terms, api.Term{Op: op, Arg: arg})
	r.tokens = r.tokens[1:]
}

// takeAhead makes a term of the next token that stands ahead of the terms from a place on: they are its first operand.
func (r *reader) takeAhead(from, op int) {
	r.terms = slices.Insert(r.terms, from, api.Term{Op: op})
	r.tokens = r.tokens[1:]
}

// choice reads an expression of any level.
func (r *reader) choice() {
	from := len(r.terms)
	r.joined(or)
	if r.word() == "?" {
		r.takeAhead(from, api.If)
		r.choice()
		r.expect(":")
		r.choice()
	}
}

// joined reads expressions of the next level with the signs of this one between them.
func (r *reader) joined(l int) {
	if l == unary {
		r.unary()
		return
	}
	from := len(r.terms)
	r.joined(l + 1)
	for op := r.sign(l); op != 0; op = r.sign(l) {
		r.takeAhead(from, op)
		r.joined(l + 1)
		if l == compare { // its second sign fits nowhere
			return
		}
	}
}

// sign returns the binary operation of a level that the next token is, or 0.
func (r *reader) sign(l int) int {
	op := operation(api.Mul, api.Or, r.word())
	if level(op) != l {
		return 0
	}
	return op
}

// unary reads an expression of the level unary.
func (r *reader) unary() {
	op := operation(api.Neg, api.Not, r.word())
	if op == 0 {
		r.primary()
		return
	}
	r.take(op, 0)
	r.unary()
}

// primary reads an expression of the level primary.
func (r *reader) primary() {
	word := r.word()
	fact, aggregate := operation(api.True, api.Root, word), operation(api.All, api.Head, word)
	switch {
	case r.next().Kind == api.TokenNumber:
		r.take(api.Num, r.next().Num)
	case lexer.Name(word):
		r.variable(api.Own)
	case fact != 0:
		r.take(fact, 0)
	case word == "q":
		r.neighbour()
	case aggregate != 0:
		r.take(aggregate, 0)
		r.brackets()
	default:
		r.brackets()
	}
}

// variable reads a NAME for an operation on variables.
func (r *reader) variable(op int) {
	i := slices.Index(r.names, r.word())
	if i < 0 {
		r.fail(api.ErrName)
	}
	r.take(op, i)
}

// neighbour reads the bound neighbour or one of its fields.
func (r *reader) neighbour() {
	r.expect("q")
	if !r.accept(".") {
		r.terms = append(r.terms, api.Term{Op: api.Here})
		return
	}
	if lexer.Name(r.word()) {
		r.variable(api.Near)
		return
	}
	field := operation(api.NearID, api.Back, "q."+r.word())
	if field == 0 {
		r.fail(api.ErrSyntax)
	}
	r.take(field, 0)
}

// brackets reads an expression of any level between brackets.
func (r *reader) brackets() {
	r.expect("(")
	r.choice()
	r.expect(")")
}
