package types

import (
	"selfstab/api"
	"selfstab/lexer"
	"selfstab/term"
)

// added adds a name to others; it reports whether it can be a name and none of them is the same.
func added(others map[string]bool, name string) bool {
	if others[name] || !lexer.Name(name) {
		return false
	}
	others[name] = true
	return true
}

// named reports whether the names of a program are good. Variables and rules have names of their own.
func named(p api.Program) bool {
	vars, rules := map[string]bool{}, map[string]bool{}
	for _, v := range p.Vars {
		if !added(vars, v.Name) {
			return false
		}
	}
	for _, r := range p.Rules {
		if !added(rules, r.Name) {
			return false
		}
	}
	return lexer.Name(p.Name)
}

// between reports whether a number is from lo to hi.
func between(lo, x, hi int) bool { return lo <= x && x <= hi }

// inRange reports whether a variable has a type, and numbers that fit it.
func inRange(v api.Var) bool {
	if v.Kind != api.Int {
		return known(v.Kind) && v.Lo == 0 && v.Hi == 0 && v.PerNode == 0 && v.PerID == 0
	}
	least := 0
	if v.PerNode != 0 || v.PerID != 0 {
		least = -api.MaxRange
	}
	return between(0, v.Lo, api.MaxRange) && between(least, v.Hi, api.MaxRange) &&
		between(0, v.PerNode, api.MaxCoef) && between(0, v.PerID, api.MaxCoef) && (v.PerNode == 0 || v.PerID == 0)
}

// wellFormed reports whether a rule of a program with so many variables is well-formed.
func wellFormed(r api.Rule, vars int) bool {
	if len(r.Sets) == 0 || len(r.Sets) > api.MaxVars || !term.Valid(r.Guard, vars) {
		return false
	}
	assigned := map[int]bool{}
	for _, s := range r.Sets {
		if assigned[s.Var] || !between(0, s.Var, vars-1) || !term.Valid(s.Value, vars) {
			return false
		}
		assigned[s.Var] = true
	}
	return true
}

// typed reports whether the guards of a well-formed program are Bools, and its values of the types of their variables.
func typed(p api.Program) bool {
	kinds := make([]int, len(p.Vars))
	for i, v := range p.Vars {
		kinds[i] = v.Kind
	}
	for _, r := range p.Rules {
		if typeOf(r.Guard, kinds, false) != api.Bool {
			return false
		}
		for _, s := range r.Sets {
			if typeOf(s.Value, kinds, false) != kinds[s.Var] {
				return false
			}
		}
	}
	return true
}
