package program_test

import (
	"fmt"
	"regexp"
	"slices"
	"strconv"
	"strings"

	"selfstab/api"
	"selfstab/expr"
	"selfstab/lexer"
	"selfstab/types"
)

// grammar is that of chapters 8 and 6, written so that the next token tells which alternative it is. Each line is one: a
// rule and what it is. NEW, VAR and RULE are the names in declarations, LO is the first number of a type.
const grammar = `<program> program NEW ; <vars> <rules>
<vars> var VAR : <type> ; <vars>
<vars>
<rules> rule RULE : <choice> -> <set> <sets> ; <rules>
<rules>
<type> bool
<type> port
<type> LO .. <bound>
<bound> NUMBER <times>
<bound> <unit> <plus>
<times> * <unit> <plus>
<times>
<unit> n
<unit> ids
<plus> + NUMBER
<plus> - NUMBER
<plus>
<sets> , <set> <sets>
<sets>
<set> NAME := <choice>
<choice> <or> <then>
<then> ? <choice> : <choice>
<then>
<or> <and> <ors>
<ors> || <and> <ors>
<ors>
<and> <compare> <ands>
<ands> && <compare> <ands>
<ands>
<compare> <sum> <against>
<against> == <sum>
<against> != <sum>
<against> < <sum>
<against> <= <sum>
<against> > <sum>
<against> >= <sum>
<against>
<sum> <product> <sums>
<sums> + <product> <sums>
<sums> - <product> <sums>
<sums>
<product> <unary> <products>
<products> * <unary> <products>
<products> / <unary> <products>
<products> % <unary> <products>
<products>
<unary> - <unary>
<unary> ! <unary>
<unary> <primary>
<primary> ANY
<primary> true
<primary> false
<primary> none
<primary> n
<primary> ids
<primary> id
<primary> deg
<primary> root
<primary> NAME
<primary> q <field>
<primary> <aggregate> ( <choice> )
<primary> ( <choice> )
<field> . <what>
<field>
<what> NAME
<what> id
<what> deg
<what> root
<what> weight
<what> back
<aggregate> all
<aggregate> some
<aggregate> count
<aggregate> first
<aggregate> min
<aggregate> max
<aggregate> sum
<aggregate> mex
<aggregate> second
<aggregate> head`

// alternatives are the lines of the grammar for each rule, without the rule itself.
var alternatives = func() map[string][][]string {
	all := map[string][][]string{}
	for _, line := range strings.Split(grammar, "\n") {
		symbols := strings.Fields(line)
		all[symbols[0]] = append(all[symbols[0]], symbols[1:])
	}
	return all
}()

// begins reports whether what a symbol derives can begin with a token.
func begins(symbol, token string) bool {
	switch symbol {
	case "NEW", "VAR", "RULE", "NAME":
		return lexer.Name(token)
	case "LO", "NUMBER", "ANY":
		return token[0] >= '0' && token[0] <= '9'
	}
	return symbol == token || slices.ContainsFunc(alternatives[symbol], func(a []string) bool { return len(a) > 0 && begins(a[0], token) })
}

// empty reports whether a symbol can derive nothing.
func empty(symbol string) bool {
	return slices.ContainsFunc(alternatives[symbol], func(a []string) bool { return len(a) == 0 })
}

// walk returns the symbols as which tokens are read, up to the first one with which they begin no program, and whether
// the tokens are a whole one. The lines of the grammar by which it reads them are handed to seen.
func walk(tokens []string, seen func(rule string, line []string)) (symbols []string, whole bool) {
	rest := []string{"<program>"} // what has to follow, the next one at the end
	for _, token := range tokens {
		for len(rest) > 0 && alternatives[rest[len(rest)-1]] != nil {
			rule := rest[len(rest)-1]
			i := slices.IndexFunc(alternatives[rule], func(a []string) bool { return len(a) > 0 && begins(a[0], token) })
			if i < 0 && !empty(rule) {
				return symbols, false
			}
			var line []string
			if i >= 0 {
				line = alternatives[rule][i]
			}
			seen(rule, line)
			rest = rest[:len(rest)-1]
			for _, symbol := range slices.Backward(line) {
				rest = append(rest, symbol)
			}
		}
		if len(rest) == 0 || !begins(rest[len(rest)-1], token) {
			return symbols, false
		}
		symbols = append(symbols, rest[len(rest)-1])
		rest = rest[:len(rest)-1]
	}
	for _, symbol := range rest {
		if !empty(symbol) {
			return symbols, false
		}
		seen(symbol, nil)
	}
	return symbols, true
}

// unseen is for those who do not ask which lines are used.
func unseen(string, []string) {}

// wrong returns the first of the tokens, read as these symbols, that has an error other than ErrSyntax.
func wrong(tokens, symbols []string) (int, api.Errno) {
	var vars, rules []string
	for i, symbol := range symbols {
		number, _ := strconv.Atoi(tokens[i])
		coefficient := i+1 < len(tokens) && tokens[i+1] == "*"
		e := api.OK
		switch {
		case symbol == "VAR" && slices.Contains(vars, tokens[i]), symbol == "RULE" && slices.Contains(rules, tokens[i]), symbol == "NAME" && !slices.Contains(vars, tokens[i]):
			e = api.ErrName
		case symbol == "var" && len(vars) == api.MaxVars, symbol == "rule" && len(rules) == api.MaxRules:
			e = api.ErrLimit
		case symbol == "LO" && number > api.MaxRange, symbol == "NUMBER" && !coefficient && number > api.MaxRange, symbol == "NUMBER" && coefficient && (number < 1 || number > api.MaxCoef):
			e = api.ErrRange
		case symbol == "VAR":
			vars = append(vars, tokens[i])
		case symbol == "RULE":
			rules = append(rules, tokens[i])
		}
		if e != api.OK {
			return i, e
		}
	}
	return 0, api.OK
}

// cut returns the parts of a list between elements that are equal to a separator.
func cut(list []string, separator string) [][]string {
	var parts [][]string
	from := 0
	for i, x := range list {
		if x == separator {
			parts = append(parts, list[from:i])
			from = i + 1
		}
	}
	return append(parts, list[from:])
}

// typeForm is the form of the type of an Int, with one space between its tokens.
var typeForm = regexp.MustCompile(`^(\d+) \.\. (?:(\d+)|(?:(\d+) \* )?(n|ids)(?: ([+-]) (\d+))?)$`)

// variable returns the variable with a name and a type.
func variable(name, text string) api.Var {
	switch text {
	case "bool":
		return api.Var{Name: name, Kind: api.Bool}
	case "port":
		return api.Var{Name: name, Kind: api.Port}
	}
	parts := typeForm.FindStringSubmatch(text)
	number := func(i int) int {
		x, _ := strconv.Atoi(parts[i])
		return x
	}
	v := api.Var{Name: name, Kind: api.Int, Lo: number(1), Hi: number(2) + number(6)}
	if parts[5] == "-" {
		v.Hi = -v.Hi
	}
	times := max(1, number(3))
	switch parts[4] {
	case "n":
		v.PerNode = times
	case "ids":
		v.PerID = times
	}
	return v
}

// rule returns the rule of tokens from the word "rule" on.
func rule(tokens, vars []string) api.Rule {
	read := func(words []string) []api.Term {
		e, _, _ := expr.Parse(strings.Join(words, " "), vars)
		return e
	}
	sides := cut(tokens[3:], "->")
	r := api.Rule{Name: tokens[1], Guard: read(sides[0])}
	for _, set := range cut(sides[1], ",") {
		r.Sets = append(r.Sets, api.Set{Var: slices.Index(vars, set[0]), Value: read(set[2:])})
	}
	return r
}

// built returns the program of tokens that are one, without names that are declared twice or not at all.
func built(tokens []string) api.Program {
	parts := cut(tokens, ";")
	p := api.Program{Name: parts[0][1]}
	var vars []string
	for _, part := range parts[1 : len(parts)-1] {
		if part[0] == "var" {
			p.Vars = append(p.Vars, variable(part[1], strings.Join(part[3:], " ")))
			vars = append(vars, part[1])
		} else {
			p.Rules = append(p.Rules, rule(part, vars))
		}
	}
	return p
}

// words returns the tokens of a text as they stand there.
func words(text string) []string {
	tokens, _, _ := lexer.Scan(text)
	var all []string
	for _, t := range tokens {
		all = append(all, text[t.At:t.End])
	}
	return all
}

// answer returns the results of Parse by the sentences of P8.1.
func answer(text string) (api.Program, int, api.Errno) {
	tokens, at, e := lexer.Scan(text)
	if e != api.OK {
		return api.Program{}, at, e
	}
	all := words(text)
	symbols, whole := walk(all, unseen)
	i, e := wrong(all, symbols)
	switch {
	case e != api.OK:
		return api.Program{}, tokens[i].At, e
	case len(symbols) < len(all):
		return api.Program{}, tokens[len(symbols)].At, api.ErrSyntax
	case !whole:
		return api.Program{}, len(text), api.ErrSyntax
	}
	p := built(all)
	if len(p.Vars) == 0 {
		return api.Program{}, 0, api.ErrLimit
	}
	if e := types.Check(p); e != api.OK {
		return api.Program{}, 0, e
	}
	return p, 0, api.OK
}

// shown returns the text of a valid program by the sentences of P8.2, however long it is.
func shown(p api.Program) string {
	var names []string
	for _, v := range p.Vars {
		names = append(names, v.Name)
	}
	show := func(e []api.Term) string {
		text, _ := expr.Format(e, names)
		return text
	}
	var text strings.Builder
	fmt.Fprintf(&text, "program %s;\n", p.Name)
	for _, v := range p.Vars {
		fmt.Fprintf(&text, "var %s : %s;\n", v.Name, shownType(v))
	}
	for _, r := range p.Rules {
		fmt.Fprintf(&text, "rule %s: %s -> ", r.Name, show(r.Guard))
		for i, s := range r.Sets {
			if i > 0 {
				text.WriteString(", ")
			}
			fmt.Fprintf(&text, "%s := %s", names[s.Var], show(s.Value))
		}
		text.WriteString(";\n")
	}
	return text.String()
}

// shownType returns the text of a type: what is too long is written first, and then shortened.
func shownType(v api.Var) string {
	text := [...]string{api.Int: "LO .. C * WORD + B", api.Bool: "bool", api.Port: "port"}[v.Kind]
	if v.PerNode+v.PerID == 0 {
		text = strings.Replace(text, "C * WORD + B", "B", 1)
	}
	if v.PerNode+v.PerID == 1 {
		text = strings.Replace(text, "C * ", "", 1)
	}
	if v.PerNode+v.PerID > 0 && v.Hi == 0 {
		text = strings.Replace(text, " + B", "", 1)
	}
	word := "n"
	if v.PerID > 0 {
		word = "ids"
	}
	text = strings.NewReplacer("LO", fmt.Sprint(v.Lo), "C", fmt.Sprint(v.PerNode+v.PerID), "WORD", word, "B", fmt.Sprint(v.Hi)).Replace(text)
	return strings.Replace(text, "+ -", "- ", 1)
}
