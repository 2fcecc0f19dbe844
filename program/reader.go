package program

import (
	"slices"

	"selfstab/api"
	"selfstab/cursor"
	"selfstab/expr"
	"selfstab/lexer"
)

// expressions reads the expressions of a program.
type expressions struct {
	cursor.Cursor
	vars []string // the names of the variables
}

// choice reads an expression: package expr reads the text up to a sign that no expression has. One that is too large
// comes back as nil, which is not term.Valid either: types.Check refuses it, behind all errors that have a place.
func (r *expressions) choice() []api.Term {
	from := r.Next().At
	for !ends(r.Word()) {
		r.Skip()
	}
	e, at, errno := expr.Parse(r.Text[from:r.Next().At], r.vars)
	if errno != api.OK && errno != api.ErrLimit {
		r.FailAt(from+at, errno)
	}
	return e
}

// ends reports whether a token can stand behind an expression, but not in it. The end of the text can, too.
func ends(word string) bool {
	return word == "->" || word == "," || word == ";" || word == ""
}

// reader reads a program: it extends the reader of expressions by all that stands around them.
type reader struct {
	expressions
	rules   []string // the names of the rules
	program api.Program
}

// whole reads the program.
func (r *reader) whole() {
	r.Expect("program")
	r.program.Name = r.newName(nil)
	r.Expect(";")
	r.each("var", api.MaxVars, r.variable)
	r.each("rule", api.MaxRules, r.rule)
}

// each reads all parts that begin with a word, at most so many.
func (r *reader) each(word string, most int, part func()) {
	for n := 0; r.Word() == word; n++ {
		if n == most {
			r.Fail(api.ErrLimit)
		}
		r.Skip()
		part()
		r.Expect(";")
	}
}

// name reads a NAME which is one that fits.
func (r *reader) name(fits func(name string) bool) string {
	name := r.Word()
	if !lexer.Name(name) {
		r.Fail(api.ErrSyntax)
	}
	if !fits(name) {
		r.Fail(api.ErrName)
	}
	r.Skip()
	return name
}

// newName reads a NAME that none of the others has.
func (r *reader) newName(others []string) string {
	return r.name(func(name string) bool { return !slices.Contains(others, name) })
}

// variable reads the declaration of a variable behind its first word.
func (r *reader) variable() {
	v := api.Var{Name: r.newName(r.vars)}
	r.Expect(":")
	switch {
	case r.Accept("bool"):
		v.Kind = api.Bool
	case r.Accept("port"):
		v.Kind = api.Port
	default:
		v.Kind = api.Int
		v.Lo = r.number(false)
		r.Expect("..")
		r.bound(&v)
	}
	r.vars = append(r.vars, v.Name)
	r.program.Vars = append(r.program.Vars, v)
}

// number reads a NUMBER. In a bound, one with * behind it has limits of its own.
func (r *reader) number(inBound bool) int {
	if r.Next().Kind != api.TokenNumber {
		r.Fail(api.ErrSyntax)
	}
	t := r.Skip()
	least, most := 0, api.MaxRange
	if inBound && r.Word() == "*" {
		least, most = 1, api.MaxCoef
	}
	if t.Num < least || t.Num > most {
		r.FailAt(t.At, api.ErrRange)
	}
	return t.Num
}

// bound reads the bound of a variable.
func (r *reader) bound(v *api.Var) {
	times := 1
	if r.Next().Kind == api.TokenNumber {
		number := r.number(true)
		if !r.Accept("*") {
			v.Hi = number
			return
		}
		times = number
	}
	switch {
	case r.Accept("n"):
		v.PerNode = times
	case r.Accept("ids"):
		v.PerID = times
	default:
		r.Fail(api.ErrSyntax)
	}
	switch {
	case r.Accept("+"):
		v.Hi = r.number(true)
	case r.Accept("-"):
		v.Hi = -r.number(true)
	}
}

// rule reads a rule behind its first word.
func (r *reader) rule() {
	rule := api.Rule{Name: r.newName(r.rules)}
	r.Expect(":")
	rule.Guard = r.choice()
	r.Expect("->")
	rule.Sets = []api.Set{r.set()}
	for r.Accept(",") {
		rule.Sets = append(rule.Sets, r.set())
	}
	r.rules = append(r.rules, rule.Name)
	r.program.Rules = append(r.program.Rules, rule)
}

// set reads an assignment.
func (r *reader) set() api.Set {
	name := r.name(func(name string) bool { return slices.Contains(r.vars, name) })
	r.Expect(":=")
	return api.Set{Var: slices.Index(r.vars, name), Value: r.choice()}
}
