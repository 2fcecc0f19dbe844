package program

import (
	"strconv"
	"strings"

	"selfstab/api"
	"selfstab/expr"
)

// written returns the text of a valid program.
func written(p api.Program) string {
	var text strings.Builder
	text.WriteString("program " + p.Name + ";\n")
	var names []string
	for _, v := range p.Vars {
		names = append(names, v.Name)
		text.WriteString("var " + v.Name + " : " + typeText(v) + ";\n")
	}
	for _, r := range p.Rules {
		text.WriteString("rule " + ruleText(r, names) + ";\n")
	}
	return text.String()
}

// typeText returns the text of the type of a variable.
func typeText(v api.Var) string {
	switch v.Kind {
	case api.Bool:
		return "bool"
	case api.Port:
		return "port"
	}
	return strconv.Itoa(v.Lo) + " .. " + boundText(v)
}

// boundText returns the shortest text of the greatest value of a variable.
func boundText(v api.Var) string {
	switch {
	case v.PerNode > 0:
		return timesText(v.PerNode, "n") + plusText(v.Hi)
	case v.PerID > 0:
		return timesText(v.PerID, "ids") + plusText(v.Hi)
	}
	return strconv.Itoa(v.Hi)
}

// timesText returns the text of a word so many times.
func timesText(c int, word string) string {
	if c == 1 {
		return word
	}
	return strconv.Itoa(c) + " * " + word
}

// plusText returns the text that adds a number to what stands ahead of it.
func plusText(b int) string {
	switch {
	case b > 0:
		return " + " + strconv.Itoa(b)
	case b < 0:
		return " - " + strconv.Itoa(-b)
	}
	return ""
}

// ruleText returns the text of a rule.
func ruleText(r api.Rule, names []string) string {
	var sets []string
	for _, s := range r.Sets {
		sets = append(sets, names[s.Var]+" := "+exprText(s.Value, names))
	}
	return r.Name + ": " + exprText(r.Guard, names) + " -> " + strings.Join(sets, ", ")
}

// exprText returns the text of an expression. That of MaxTerms terms is far shorter than MaxText, so there is no error.
func exprText(e []api.Term, names []string) string {
	text, _ := expr.Format(e, names)
	return text
}
