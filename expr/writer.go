package expr

import (
	"strconv"
	"strings"

	"selfstab/api"
	"selfstab/term"
)

// writer writes an expression, term by term: each one knows how its operands are parted.
type writer struct {
	text  strings.Builder
	terms []api.Term // those that are still to be written
	names []string
}

// expression writes the next expression, in brackets if its level is looser than the loosest one that can stand there.
func (w *writer) expression(loosest int) {
	if level(w.terms[0].Op) < loosest {
		w.brackets()
		return
	}
	t := w.terms[0]
	w.terms = w.terms[1:]
	switch term.Arity(t.Op) {
	case 0:
		w.alone(t)
	case 1:
		w.one(t.Op)
	case 2:
		w.two(t.Op)
	default:
		w.three()
	}
}

// brackets writes the next expression in brackets.
func (w *writer) brackets() {
	w.text.WriteByte('(')
	w.expression(choice)
	w.text.WriteByte(')')
}

// alone writes a term without operands.
func (w *writer) alone(t api.Term) {
	switch t.Op {
	case api.Num:
		w.text.WriteString(strconv.Itoa(t.Arg))
	case api.Own:
		w.text.WriteString(w.names[t.Arg])
	case api.Near:
		w.text.WriteString("q." + w.names[t.Arg])
	default:
		w.text.WriteString(words[t.Op])
	}
}

// one writes an operation with one operand.
func (w *writer) one(op int) {
	w.text.WriteString(words[op])
	if level(op) == unary {
		w.expression(unary)
	} else {
		w.brackets()
	}
}

// two writes an operation with two operands. On the left of its sign the same level can stand, as signs group from
// the left; but a comparison has only one sign.
func (w *writer) two(op int) {
	left, right := level(op), level(op)+1
	if left == compare {
		left = right
	}
	w.expression(left)
	w.text.WriteString(" " + words[op] + " ")
	w.expression(right)
}

// three writes the operands of If.
func (w *writer) three() {
	w.expression(or)
	w.text.WriteString(" ? ")
	w.expression(choice)
	w.text.WriteString(" : ")
	w.expression(choice)
}
