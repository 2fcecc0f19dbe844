package expr_test

import (
	"slices"
	"strconv"
	"strings"

	"selfstab/api"
	"selfstab/lexer"
	"selfstab/term"
)

// grammar is that of the chapter, a line for each choice: a symbol and what it is.
var grammar = strings.Split(`choice or
choice or ? choice : choice
or and
or or || and
and compare
and and && compare
compare sum
compare sum == sum
compare sum != sum
compare sum < sum
compare sum <= sum
compare sum > sum
compare sum >= sum
sum product
sum sum + product
sum sum - product
product unary
product product * unary
product product / unary
product product % unary
unary - unary
unary ! unary
unary primary
primary NUMBER
primary true
primary false
primary none
primary n
primary ids
primary id
primary deg
primary root
primary NAME
primary q
primary q . field
primary aggregate ( choice )
primary ( choice )
field NAME
field id
field deg
field root
field weight
field back
aggregate all
aggregate some
aggregate count
aggregate first
aggregate min
aggregate max
aggregate sum
aggregate mex
aggregate second
aggregate head`, "\n")

// productions are the lines of the grammar, cut into symbols. The aggregate sum is told from the rule by its capital.
var productions = func() [][]string {
	var all [][]string
	for _, line := range grammar {
		if line == "aggregate sum" {
			line = "aggregate SUM"
		}
		all = append(all, strings.Fields(line))
	}
	return all
}()

// rules reports for each symbol of the grammar whether it is a rule.
var rules = func() map[string]bool {
	all := map[string]bool{}
	for _, p := range productions {
		all[p[0]] = true
	}
	return all
}()

// symbol returns the symbol of the grammar that a token is.
func symbol(token string) string {
	switch {
	case token == "sum":
		return "SUM"
	case lexer.Name(token):
		return "NAME"
	case token[0] >= '0' && token[0] <= '9':
		return "NUMBER"
	}
	return token
}

// item is a line of the grammar of which the symbols ahead of dot have been read from the token from on (Earley's method).
type item struct{ line, dot, from int }

// next returns the symbol behind the dot, or "".
func (i item) next() string {
	if p := productions[i.line]; i.dot < len(p) {
		return p[i.dot]
	}
	return ""
}

// chart holds for each number of tokens the items that have been read by then.
type chart [][]item

// closed returns the chart with one more set: the items given, and all that follow from them.
func (c chart) closed(items []item) chart {
	c = append(c[:len(c):len(c)], items)
	last := len(c) - 1
	add := func(i item) {
		if !slices.Contains(c[last], i) {
			c[last] = append(c[last], i)
		}
	}
	for k := 0; k < len(c[last]); k++ { // no rule is empty, so a finished item began in an earlier set
		switch i := c[last][k]; {
		case i.next() == "":
			for _, j := range c[i.from] {
				if j.next() == productions[i.line][0] {
					add(item{j.line, j.dot + 1, j.from})
				}
			}
		case rules[i.next()]:
			for line, p := range productions {
				if p[0] == i.next() {
					add(item{line, 1, last})
				}
			}
		}
	}
	return c
}

// start returns the chart of no tokens.
func start() chart { return chart(nil).closed([]item{{0, 1, 0}, {1, 1, 0}}) }

// read returns the chart with one more token, and whether the tokens begin an expression.
func (c chart) read(token string) (chart, bool) {
	var items []item
	for _, i := range c[len(c)-1] {
		if i.next() == symbol(token) {
			items = append(items, item{i.line, i.dot + 1, i.from})
		}
	}
	return c.closed(items), len(items) > 0
}

// whole reports whether the tokens are an expression.
func (c chart) whole() bool {
	return slices.ContainsFunc(c[len(c)-1], func(i item) bool {
		return i.from == 0 && i.next() == "" && productions[i.line][0] == "choice"
	})
}

// leaves are the words of the operations without operands; those of Num, Own and Near are not fixed.
var leaves = map[string]int{
	"true": api.True, "false": api.False, "none": api.None, "n": api.Nodes, "ids": api.IDs, "id": api.ID, "deg": api.Deg, "root": api.Root,
	"q": api.Here, "q.id": api.NearID, "q.deg": api.NearDeg, "q.root": api.NearRoot, "q.weight": api.Weight, "q.back": api.Back,
}

// unaries are the signs ahead of one operand.
var unaries = map[string]int{"-": api.Neg, "!": api.Not}

// aggregates are the words ahead of brackets.
var aggregates = map[string]int{
	"all": api.All, "some": api.Some, "count": api.CountOf, "first": api.First, "min": api.Min,
	"max": api.Max, "sum": api.Sum, "mex": api.Mex, "second": api.Second, "head": api.Head,
}

// binaries are the signs between two operands, a group for each rule of the grammar, from the loosest to the tightest.
var binaries = []map[string]int{
	{"||": api.Or},
	{"&&": api.And},
	{"==": api.Eq, "!=": api.Ne, "<": api.Lt, "<=": api.Le, ">": api.Gt, ">=": api.Ge},
	{"+": api.Add, "-": api.Sub},
	{"*": api.Mul, "/": api.Div, "%": api.Mod},
}

// operand reports whether a token can be the last one of an operand, so that a sign behind it has two.
func operand(token string) bool {
	return token == ")" || token[0] >= 'a' && token[0] <= 'z' || token[0] >= '0' && token[0] <= '9'
}

// outside returns the places of tokens outside of brackets which fit.
func outside(tokens []string, fits func(i int) bool) []int {
	var places []int
	open := 0
	for i, token := range tokens {
		switch {
		case token == "(":
			open++
		case token == ")":
			open--
		case open == 0 && fits(i):
			places = append(places, i)
		}
	}
	return places
}

// middle returns the place of the colon that belongs to the question mark at a place.
func middle(tokens []string, question int) int {
	choices := 0
	colons := outside(tokens, func(i int) bool {
		if i > question && tokens[i] == "?" {
			choices++
		}
		if i > question && tokens[i] == ":" {
			choices--
		}
		return i > question && tokens[i] == ":" && choices < 0
	})
	return colons[0]
}

// structure returns the terms of tokens that are an expression: they are parted at the first question mark outside of
// brackets, or else at the last one of the loosest signs there.
func structure(tokens []string, names []string) []api.Term {
	part := func(from, to int) []api.Term { return structure(tokens[from:to], names) }
	n := len(tokens)
	if questions := outside(tokens, func(i int) bool { return tokens[i] == "?" }); len(questions) > 0 {
		question := questions[0]
		colon := middle(tokens, question)
		return tree(api.If, part(0, question), part(question+1, colon), part(colon+1, n))
	}
	for _, group := range binaries {
		signs := outside(tokens, func(i int) bool { return group[tokens[i]] != 0 && i > 0 && operand(tokens[i-1]) })
		if len(signs) > 0 {
			last := signs[len(signs)-1]
			return tree(group[tokens[last]], part(0, last), part(last+1, n))
		}
	}
	if op := unaries[tokens[0]]; op != 0 {
		return tree(op, part(1, n))
	}
	if tokens[0] == "(" {
		return part(1, n-1)
	}
	if op := aggregates[tokens[0]]; op != 0 {
		return tree(op, part(2, n-1))
	}
	return leaf(strings.Join(tokens, ""), names)
}

// leaf returns the term of a word without operands.
func leaf(word string, names []string) []api.Term {
	if op := leaves[word]; op != 0 {
		return tree(op)
	}
	if i := slices.Index(names, word); i >= 0 {
		return own(i)
	}
	if name, ok := strings.CutPrefix(word, "q."); ok {
		return near(slices.Index(names, name))
	}
	arg, _ := strconv.Atoi(word)
	return num(arg)
}

// key returns the word or sign of an operation.
func key(ops map[string]int, op int) string {
	for word, o := range ops {
		if o == op {
			return word
		}
	}
	return ""
}

// rank returns the place of the rule of an operation in the grammar: that of If is 0, and those behind the binary signs are 6.
func rank(op int) int {
	if op == api.If {
		return 0
	}
	for i, group := range binaries {
		if key(group, op) != "" {
			return i + 1
		}
	}
	return len(binaries) + 1
}

// shown returns the text of a valid expression by the sentences of P6.2, and its operation.
func shown(e []api.Term, names []string) (string, int) {
	op := e[0].Op
	var text [3]string
	var under [3]int
	for k := range term.Arity(op) {
		at := term.Operand(e, 0, k)
		text[k], under[k] = shown(e[at:term.End(e, at)], names)
	}
	bracket := func(k int, needed bool) {
		if needed {
			text[k] = "(" + text[k] + ")"
		}
	}
	switch {
	case op == api.Num:
		return strconv.Itoa(e[0].Arg), op
	case op == api.Own:
		return names[e[0].Arg], op
	case op == api.Near:
		return "q." + names[e[0].Arg], op
	case op == api.If:
		bracket(0, under[0] == api.If)
		return text[0] + " ? " + text[1] + " : " + text[2], op
	case op == api.Neg || op == api.Not:
		bracket(0, under[0] == api.If || term.Arity(under[0]) == 2)
		return key(unaries, op) + text[0], op
	case term.Arity(op) == 1:
		return key(aggregates, op) + "(" + text[0] + ")", op
	case term.Arity(op) == 0:
		return key(leaves, op), op
	}
	comparison := rank(op) == 3
	bracket(0, rank(under[0]) < rank(op) || comparison && rank(under[0]) == 3)
	bracket(1, rank(under[1]) <= rank(op))
	return text[0] + " " + key(binaries[rank(op)-1], op) + " " + text[1], op
}

// words returns the tokens of a text as they stand there.
func words(text string) []string {
	tokens, _, _ := lexer.Scan(text)
	var all []string
	for _, t := range tokens {
		all = append(all, text[t.At:t.End])
	}
	return all
}

// spaced returns tokens with the spacing of P6.2.
func spaced(tokens []string) string {
	var text strings.Builder
	for i, token := range tokens {
		binary := token == "?" || token == ":"
		for _, group := range binaries {
			binary = binary || group[token] != 0 && i > 0 && operand(tokens[i-1])
		}
		if binary {
			token = " " + token + " "
		}
		text.WriteString(token)
	}
	return text.String()
}
