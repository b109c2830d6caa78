package read

import (
	"parry/api"
	"parry/dom"
)

// maxOpen is how many parentheses can be nested.
const maxOpen = 100

// reader reads expressions over the variables that are known.
type reader struct {
	scanner
	vars []api.Var
	open int // parentheses
}

// expr reads an expression. Its first word tells which function reads it.
func (r *reader) expr() api.Expr {
	read := r.kind()
	return read()
}

// kind returns the function that reads the expression that begins here.
func (r *reader) kind() func() api.Expr {
	switch r.word.text {
	case "(":
		return r.group
	case "true", "false":
		return r.truth
	case "-":
		return r.constant
	}
	if r.word.kind == number {
		return r.constant
	}
	return r.value
}

func (r *reader) constant() api.Expr {
	return api.Expr{Op: api.ENum, N: r.whole()}
}

func (r *reader) truth() api.Expr {
	if r.take("true") {
		return truth(1)
	}
	r.need("false")
	return truth(0)
}

func truth(n int) api.Expr {
	return api.Expr{Op: api.EBool, N: n}
}

func (r *reader) value() api.Expr {
	v := r.known()
	if r.take("'") {
		return api.Expr{Op: api.ENext, N: v}
	}
	return api.Expr{Op: api.EVar, N: v}
}

// known reads the name of a variable, and returns its number. The name is looked up ahead of the next word: what is wrong there comes later in the text.
func (r *reader) known() int {
	if !r.word.isName() {
		r.misfit()
		return 0
	}
	v := dom.Find(r.vars, r.word.text)
	if v < 0 {
		r.fail(r.word.at, api.ErrName)
		return 0
	}
	r.next()
	return v
}

func (r *reader) group() api.Expr {
	if r.open == maxOpen {
		r.fail(r.word.at, api.ErrFull)
		return api.Expr{}
	}
	r.open++
	r.need("(")
	e := r.operation()
	r.need(")")
	r.open--
	return e
}

// operation reads what stands in parentheses.
func (r *reader) operation() api.Expr {
	switch {
	case r.take("not"):
		return api.Expr{Op: api.ENot, Kids: []api.Expr{r.expr()}}
	case r.take("if"):
		a := r.expr()
		r.need("then")
		b := r.expr()
		r.need("else")
		return api.Expr{Op: api.EIf, Kids: []api.Expr{a, b, r.expr()}}
	}
	a := r.expr()
	op := r.between()
	return api.Expr{Op: op, Kids: []api.Expr{a, r.expr()}}
}

// between reads what stands between two expressions.
func (r *reader) between() int {
	op := operator(r.word.text)
	if op == 0 {
		r.misfit()
	}
	r.next()
	return op
}

// operator returns the operation of a word, and 0 if it has none.
func operator(text string) int {
	switch text {
	case "and":
		return api.EAnd
	case "or":
		return api.EOr
	case "=>":
		return api.EThen
	case "=":
		return api.ESame
	case "<":
		return api.ELess
	case "<=":
		return api.EMost
	case "+":
		return api.EAdd
	case "-":
		return api.ESub
	case "*":
		return api.EMul
	}
	return 0
}
