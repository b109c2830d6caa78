package read

import (
	"strings"

	"parry/api"
)

// builder reads the statements of a module. The variables that it knows are those declared so far.
type builder struct {
	reader
	made api.Module // all of it but the variables
}

// build returns a builder at the first word of a text, of the module that has no statements.
func build(text string) builder {
	b := builder{reader: reader{scanner: scan(text)}}
	b.made.InitEnv = truth(1)
	b.made.InitSys = truth(1)
	return b
}

func (b *builder) module() api.Module {
	m := b.made
	m.Vars = b.vars
	return m
}

// statement is what reads a statement whose first word is this one.
type statement struct {
	word string
	read func(*builder)
}

func kinds() []statement {
	return []statement{
		{"env", (*builder).ofEnv},
		{"sys", (*builder).ofSys},
		{"init", (*builder).initial},
		{"assume", (*builder).assume},
		{"ensure", (*builder).ensure},
		{"prio", (*builder).prio},
	}
}

// statements reads up to the end of the text.
func (b *builder) statements() {
	list := kinds()
	for b.err == api.OK && b.word.kind != end {
		b.statement(list)
		b.need(";")
	}
}

func (b *builder) statement(list []statement) {
	for _, x := range list {
		if b.take(x.word) {
			x.read(b)
			return
		}
	}
	b.misfit()
}

func (b *builder) ofEnv() {
	if b.take("when") {
		b.made.Env = append(b.made.Env, b.command())
		return
	}
	b.declare(true)
}

func (b *builder) ofSys() {
	if b.take("when") {
		b.made.Sys = append(b.made.Sys, b.command())
		return
	}
	b.declare(false)
}

// declare reads a variable. Its name is copied: a piece of the text would keep all of it.
func (b *builder) declare(env bool) {
	if !b.word.isName() {
		b.misfit()
	}
	v := api.Var{Name: strings.Clone(b.word.text), Env: env, Sort: api.SBool}
	b.next()
	b.need(":")
	if !b.take("bool") {
		v.Sort = api.SInt
		v.Low = b.whole()
		b.need("..")
		v.High = b.whole()
	}
	b.vars = append(b.vars, v)
}

func (b *builder) command() api.Command {
	c := api.Command{Guard: b.expr()}
	if b.take("do") {
		c.Sets = listed(b.take, b.set)
	}
	return c
}

// listed reads one thing or more, with commas in between.
func listed[T any](take func(string) bool, one func() T) []T {
	list := []T{one()}
	for take(",") {
		list = append(list, one())
	}
	return list
}

func (b *builder) set() api.Set {
	v := b.known()
	b.need(":=")
	if b.take("any") {
		return api.Set{Var: v, Any: true}
	}
	return api.Set{Var: v, E: b.expr()}
}

func (b *builder) initial() {
	switch {
	case b.take("env"):
		b.made.InitEnv = b.expr()
	case b.take("sys"):
		b.made.InitSys = b.expr()
	default:
		b.misfit()
	}
}

func (b *builder) assume() {
	b.made.Assume = append(b.made.Assume, b.expr())
}

func (b *builder) ensure() {
	b.made.Ensure = append(b.made.Ensure, b.expr())
}

func (b *builder) prio() {
	b.made.Prio = append(b.made.Prio, b.expr())
}
