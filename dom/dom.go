// Package dom numbers the valuations of a list of variables: see ../../shared/doc/01-dom.md.
//
// A state is a mixed number: each variable is a digit whose base is its Size, the first variable the lowest one.
package dom

import "parry/api"

// May tells whether l is a valid list of variables, or the first reason why it is not.
func May(l []api.Var) api.Errno {
	// A map, not a look back at each name: a list of any length may come in.
	places := make(map[string]int)
	for i, v := range l {
		if _, again := places[v.Name]; again || !isName(v.Name) {
			return api.ErrName
		}
		if err := mayValues(v); err != api.OK {
			return err
		}
		places[v.Name] = i
	}
	// Each variable is valid by now, so only their number or their product is left to make Total 0.
	if Total(l) == 0 {
		return api.ErrFull
	}
	return api.OK
}

// Size returns the number of values of v, and 0 if v has none.
func Size(v api.Var) int {
	switch {
	case v.Sort == api.SBool:
		return 2
	case v.Sort == api.SInt && isRange(v.Low, v.High):
		return v.High - v.Low + 1
	}
	return 0
}

// Total returns the number of states of l, and 0 if l is not valid, whatever the names are.
func Total(l []api.Var) int {
	if len(l) > api.MaxVars {
		return 0
	}
	total := 1
	for _, v := range l {
		if mayValues(v) != api.OK {
			return 0
		}
		total *= Size(v)
		// Asked at each step, so that the product cannot wrap around.
		if total > api.MaxStates {
			return 0
		}
	}
	return total
}

// Values returns the value of each variable in state.
func Values(l []api.Var, state int) ([]int, bool) {
	if May(l) != api.OK || state < 0 || state >= Total(l) {
		return nil, false
	}
	values := make([]int, len(l))
	for i, v := range l {
		size := Size(v)
		values[i] = v.Low + state%size
		state /= size
	}
	return values, true
}

// State returns the state in which the variables have these values.
func State(l []api.Var, values []int) (int, bool) {
	if May(l) != api.OK || len(values) != len(l) {
		return 0, false
	}
	for i, v := range l {
		if !hasValue(v, values[i]) {
			return 0, false
		}
	}
	return number(l, values), true
}

// With returns state with the value of variable v replaced.
func With(l []api.Var, state, v, value int) (int, bool) {
	values, ok := Values(l, state)
	if !ok || v < 0 || v >= len(l) || !hasValue(l[v], value) {
		return 0, false
	}
	values[v] = value
	return number(l, values), true
}

// Part returns state with only the values of one side's variables kept, and -1 if state is none.
func Part(l []api.Var, state int, env bool) int {
	values, ok := Values(l, state)
	if !ok {
		return -1
	}
	for i, v := range l {
		if v.Env != env {
			values[i] = v.Low
		}
	}
	return number(l, values)
}

// Find returns the index of the first variable with this name, and -1 if there is none.
func Find(l []api.Var, name string) int {
	for i, v := range l {
		if v.Name == name {
			return i
		}
	}
	return -1
}

// number is State for a valid list and values that are checked.
func number(l []api.Var, values []int) int {
	state, weight := 0, 1
	for i, v := range l {
		state += (values[i] - v.Low) * weight
		weight *= Size(v)
	}
	return state
}

// mayValues checks the sort and the bounds of a variable.
func mayValues(v api.Var) api.Errno {
	switch v.Sort {
	case api.SBool:
		// The values of a valid SBool begin with Low as those of an SInt do: nothing else has to tell them apart.
		if v.Low != 0 || v.High != 0 {
			return api.ErrOver
		}
	case api.SInt:
		if !isRange(v.Low, v.High) {
			return api.ErrOver
		}
	default:
		return api.ErrSort
	}
	return api.OK
}

func isRange(low, high int) bool {
	return -api.MaxNum <= low && low <= high && high <= api.MaxNum
}

// hasValue asks by comparison alone for a valid variable: a difference from any value could wrap around.
func hasValue(v api.Var, value int) bool {
	return v.Low <= value && value < v.Low+Size(v)
}

func isName(s string) bool {
	if len(s) < 1 || len(s) > api.MaxName || !isLetter(s[0]) {
		return false
	}
	for i := range len(s) {
		if !isLetter(s[i]) && !isDigit(s[i]) && s[i] != '_' {
			return false
		}
	}
	return !isReserved(s)
}

func isLetter(b byte) bool { return 'a' <= b && b <= 'z' }

func isDigit(b byte) bool { return '0' <= b && b <= '9' }

// isReserved leaves out do: the document does not list it.
func isReserved(s string) bool {
	switch s {
	case "bool", "int", "env", "sys", "init", "when", "assume", "ensure", "prio",
		"any", "true", "false", "if", "then", "else", "not", "and", "or":
		return true
	}
	return false
}
