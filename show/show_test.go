package show_test

import (
	"fmt"
	"math"
	"math/rand"
	"reflect"
	"slices"
	"strings"
	"testing"

	"parry/api"
	"parry/module"
	"parry/show"
	"parry/sort"
)

const (
	truth = api.SBool
	whole = api.SInt
)

func leaf(op, n int) api.Expr { return api.Expr{Op: op, N: n} }

func node(op int, kids ...api.Expr) api.Expr { return api.Expr{Op: op, Kids: kids} }

func num(n int) api.Expr { return leaf(api.ENum, n) }

func flag(n int) api.Expr { return leaf(api.EBool, n) }

func now(n int) api.Expr { return leaf(api.EVar, n) }

func next(n int) api.Expr { return leaf(api.ENext, n) }

func set(v int, e api.Expr) api.Set { return api.Set{Var: v, E: e} }

func free(v int) api.Set { return api.Set{Var: v, Any: true} }

func command(guard api.Expr, sets ...api.Set) api.Command {
	return api.Command{Guard: guard, Sets: sets}
}

// vars: each sort on each side, the sides mixed; a name may be a word of the texts, as long, or part of another one.
func vars() []api.Var {
	return []api.Var{
		{Name: "do", Env: true, Sort: truth},
		{Name: "b", Sort: whole, Low: -1, High: 2},
		{Name: "do_2", Sort: truth},
		{Name: "d45678901234567_", Env: true, Sort: whole, Low: -5, High: -3},
	}
}

// made is a valid module, with something in each of its lists but Prio.
func made() api.Module {
	return api.Module{
		Vars:    vars(),
		InitEnv: node(api.ENot, now(0)),
		InitSys: node(api.EAnd, now(0), now(2)),
		Env: []api.Command{
			command(now(2), free(0), set(3, node(api.EAdd, now(3), num(1)))),
			command(flag(1)),
		},
		Sys: []api.Command{
			command(node(api.EThen, next(0), now(2)), set(1, node(api.ESub, next(3), now(1))), free(2)),
			command(now(0), set(2, next(0))),
		},
		Assume: []api.Expr{now(0), node(api.ELess, now(3), num(-4))},
		Ensure: []api.Expr{now(2), node(api.ESame, now(1), num(0))},
	}
}

const madeText = `env do : bool;
sys b : -1..2;
sys do_2 : bool;
env d45678901234567_ : -5..-3;
init env (not do);
init sys (do and do_2);
env when do_2 do do := any, d45678901234567_ := (d45678901234567_ + 1);
env when true;
sys when (do' => do_2) do b := (d45678901234567_' - b), do_2 := any;
sys when do do do_2 := do';
assume do;
assume (d45678901234567_ < -4);
ensure do_2;
ensure (b = 0);
`

// ring holds itself.
func ring() api.Expr {
	kids := make([]api.Expr, 2)
	for i := range kids {
		kids[i] = api.Expr{Op: api.EAnd, Kids: kids}
	}
	return kids[0]
}

// tall has this depth.
func tall(deep int) api.Expr {
	e := flag(1)
	for range deep - 1 {
		e = node(api.ENot, e)
	}
	return e
}

// broad has the sort SBool and 2 n - 1 nodes.
func broad(n int) api.Expr {
	if n == 1 {
		return flag(1)
	}
	return node(api.EAnd, broad(n/2), broad(n-n/2))
}

func check(t *testing.T, got, want string, where ...any) {
	t.Helper()
	if got != want {
		t.Errorf("%q not %q at %v", got, want, where)
	}
}

// P7.1
func TestExpr(t *testing.T) {
	for i, x := range []struct {
		e    api.Expr
		want string
	}{
		{num(0), "0"},
		{num(7), "7"},
		{num(-1), "-1"},
		{num(-10), "-10"},
		{num(999), "999"},
		{num(1000), "1000"},
		{num(-1000), "-1000"},
		{flag(0), "false"},
		{flag(1), "true"},
		{now(0), "do"},
		{now(3), "d45678901234567_"},
		{next(0), "do'"},
		{next(2), "do_2'"},
		{next(3), "d45678901234567_'"},
		{node(api.ENot, next(2)), "(not do_2')"},
		{node(api.ENot, node(api.ENot, flag(0))), "(not (not false))"},
		{node(api.EAnd, now(0), node(api.ENot, next(2))), "(do and (not do_2'))"},
		{node(api.EOr, now(0), flag(1)), "(do or true)"},
		{node(api.EThen, flag(1), now(0)), "(true => do)"},
		{node(api.ESame, now(1), num(-1)), "(b = -1)"},
		{node(api.ESame, now(0), now(2)), "(do = do_2)"},
		{node(api.ELess, now(1), now(3)), "(b < d45678901234567_)"},
		{node(api.EMost, num(2), next(1)), "(2 <= b')"},
		{node(api.EAdd, now(1), num(2)), "(b + 2)"},
		{node(api.ESub, num(-3), num(-2)), "(-3 - -2)"},
		{node(api.EMul, now(1), node(api.EMul, num(2), num(0))), "(b * (2 * 0))"},
		{node(api.ESub, node(api.ESub, num(1), num(2)), num(3)), "((1 - 2) - 3)"},
		{node(api.EIf, now(0), num(1), node(api.EAdd, num(1), num(2))), "(if do then 1 else (1 + 2))"},
		{node(api.EIf, node(api.EIf, flag(0), flag(1), flag(0)), now(0), node(api.EIf, now(2), flag(1), now(0))), "(if (if false then true else false) then do else (if do_2 then true else do))"},
		{node(api.EAnd, node(api.EOr, now(0), now(2)), node(api.EThen, next(0), next(2))), "((do or do_2) and (do' => do_2'))"},
	} {
		check(t, show.Expr(vars(), x.e), x.want, i)
	}
	check(t, show.Expr(nil, num(-12)), "-12")
	check(t, show.Expr([]api.Var{}, node(api.ENot, api.Expr{Op: api.EBool, Kids: []api.Expr{}})), "(not false)")
}

// P7.1: the limits of an expression, and one beyond.
func TestExprLimits(t *testing.T) {
	check(t, show.Expr(nil, tall(api.MaxDeep)), strings.Repeat("(not ", 11)+"true"+strings.Repeat(")", 11))
	check(t, show.Expr(nil, tall(api.MaxDeep+1)), "")
	check(t, show.Expr(nil, node(api.ENot, node(api.EAnd, node(api.EAnd, flag(1), flag(0)), broad(2)))), "(not ((true and false) and (true and true)))")
	text := show.Expr(nil, node(api.ENot, broad(30)))
	if n := strings.Count(text, "true"); n != 30 || strings.Count(text, " and ") != 29 {
		t.Error(text)
	}
	check(t, show.Expr(nil, broad(31)), "")
}

// P7.1: what has no sort has no text.
func TestExprNotValid(t *testing.T) {
	l := vars()
	for i, e := range []api.Expr{
		{},
		{Op: api.LastOp + 1},
		{Op: -1},
		{Op: math.MinInt, N: math.MaxInt},
		num(1001),
		num(-1001),
		flag(2),
		flag(-1),
		now(4),
		now(6),
		now(-1),
		next(4),
		next(math.MaxInt),
		node(api.ENot),
		node(api.ENot, flag(1), flag(1)),
		node(api.ENot, num(1)),
		{Op: api.ENot, N: 1, Kids: []api.Expr{flag(1)}},
		{Op: api.EBool, N: 1, Kids: []api.Expr{flag(1)}},
		node(api.EAnd, flag(1)),
		node(api.EAnd, flag(1), num(1)),
		node(api.ESame, now(0), now(1)),
		node(api.EMul, now(0), num(1)),
		node(api.EIf, flag(1), num(1)),
		node(api.EIf, flag(1), num(1), flag(1)),
		node(api.EIf, num(1), num(1), num(1)),
		node(api.ENot, node(api.ENot, node(api.EOr, flag(0), now(4)))),
		ring(),
		{Op: api.EAnd, Kids: make([]api.Expr, 1<<20)},
	} {
		check(t, show.Expr(l, e), "", i)
	}
	for i, bad := range badVars() {
		check(t, show.Expr(bad, flag(1)), "", i)
	}
	// Beyond the length of the variables there is none.
	check(t, show.Expr(l[:3], now(3)), "")
}

func badVars() [][]api.Var {
	change := func(f func(v *api.Var)) []api.Var {
		l := vars()
		f(&l[1])
		return l
	}
	return [][]api.Var{
		change(func(v *api.Var) { v.Name = "" }),
		change(func(v *api.Var) { v.Name = "if" }),
		change(func(v *api.Var) { v.Name = "do" }),
		change(func(v *api.Var) { v.Name = "b\n" }),
		change(func(v *api.Var) { v.Name = "b4567890123456789" }),
		change(func(v *api.Var) { v.Sort = 0 }),
		change(func(v *api.Var) { v.Sort = truth }),
		change(func(v *api.Var) { v.Low = 3 }),
		change(func(v *api.Var) { v.High = 1001 }),
		change(func(v *api.Var) { v.High = 999 }),
		append(vars(), vars()...),
		make([]api.Var, 1<<20),
	}
}

// P7.2
func TestCommand(t *testing.T) {
	for i, x := range []struct {
		c        api.Command
		env, sys string
	}{
		{command(flag(1)), "env when true;", "sys when true;"},
		{api.Command{Guard: flag(0), Sets: []api.Set{}}, "env when false;", "sys when false;"},
		{api.Command{Guard: now(2), Sets: []api.Set{free(0)}[:0]}, "env when do_2;", "sys when do_2;"},
		{command(next(0)), "", "sys when do';"},
		{command(next(2)), "", ""},
		{command(now(0), free(0)), "env when do do do := any;", ""},
		{command(now(0), free(2)), "", "sys when do do do_2 := any;"},
		{command(now(2), set(3, num(-4)), free(0)), "env when do_2 do d45678901234567_ := -4, do := any;", ""},
		{command(now(2), free(0), set(3, now(1))), "env when do_2 do do := any, d45678901234567_ := b;", ""},
		{command(flag(1), set(2, next(0)), set(1, node(api.EAdd, now(1), num(1)))), "", "sys when true do do_2 := do', b := (b + 1);"},
		{command(flag(1), free(1), free(2)), "", "sys when true do b := any, do_2 := any;"},
		{command(flag(1), free(0), free(2)), "", ""},
		{command(flag(1), free(0), free(0)), "", ""},
		{command(flag(1), free(4)), "", ""},
		{command(flag(1), free(-1)), "", ""},
		{command(flag(1), api.Set{Var: 0, Any: true, E: flag(1)}), "", ""},
		{command(flag(1), api.Set{Var: 0, Any: true, E: ring()}), "", ""},
		{command(flag(1), api.Set{Var: 0}), "", ""},
		{command(flag(1), set(0, num(1))), "", ""},
		{command(flag(1), set(1, ring())), "", ""},
		{command(flag(1), make([]api.Set, api.MaxVars+1)...), "", ""},
		{command(flag(1), make([]api.Set, 1<<20)...), "", ""},
		{command(num(1)), "", ""},
		{command(ring()), "", ""},
		{api.Command{}, "", ""},
	} {
		check(t, show.Command(vars(), x.c, true), x.env, i, "env")
		check(t, show.Command(vars(), x.c, false), x.sys, i, "sys")
	}
	for i, bad := range badVars() {
		check(t, show.Command(bad, command(flag(1)), true), "", i)
		check(t, show.Command(bad, command(flag(1)), false), "", i)
	}
	check(t, show.Command(nil, command(flag(1)), true), "env when true;")
	check(t, show.Command(nil, command(flag(1)), false), "sys when true;")
}

// P7.2: as many Sets as there may be.
func TestCommandFull(t *testing.T) {
	var l []api.Var
	c, want := command(flag(1)), "sys when true do "
	for i := range api.MaxVars {
		name := string(rune('f' - i))
		l = append(l, api.Var{Name: name, Sort: truth})
		c.Sets = append(c.Sets, free(i))
		want += name + " := any, "
	}
	check(t, show.Command(l, c, false), strings.TrimSuffix(want, ", ")+";")
}

// P7.2
func TestModule(t *testing.T) {
	check(t, show.Module(made()), madeText)
	m := made()
	m.Assume, m.Ensure, m.Prio = nil, []api.Expr{}, []api.Expr{flag(0), now(2), node(api.EMost, now(1), num(1))}
	head := strings.Split(madeText, "assume")[0]
	check(t, show.Module(m), head+"prio false;\nprio do_2;\nprio (b <= 1);\n")
	m.Prio = nil
	check(t, show.Module(m), head)
	m.Ensure = []api.Expr{flag(1)}
	check(t, show.Module(m), head+"ensure true;\n")
	check(t, show.Module(api.Module{InitEnv: flag(1), InitSys: flag(0)}), "init env true;\ninit sys false;\n")
	check(t, show.Module(api.Module{InitEnv: flag(0), InitSys: flag(1), Sys: []api.Command{command(flag(1))}}), "init env false;\ninit sys true;\nsys when true;\n")
	check(t, show.Module(api.Module{InitEnv: flag(0), InitSys: flag(1), Vars: []api.Var{
		{Name: "a", Sort: whole, Low: -1000, High: -1000},
		{Name: "b", Env: true, Sort: whole, Low: 1000, High: 1000},
		{Name: "c", Env: true, Sort: whole},
	}}), "sys a : -1000..-1000;\nenv b : 1000..1000;\nenv c : 0..0;\ninit env false;\ninit sys true;\n")
}

// P7.2: as much of everything as there may be.
func TestModuleFull(t *testing.T) {
	m := api.Module{InitEnv: flag(1), InitSys: flag(1)}
	want := "init env true;\ninit sys true;\n"
	for range api.MaxCmds {
		m.Env, m.Sys = append(m.Env, command(flag(0))), append(m.Sys, command(flag(1)))
	}
	want += strings.Repeat("env when false;\n", 12) + strings.Repeat("sys when true;\n", 12)
	for i := range api.MaxGoals {
		m.Assume, m.Ensure = append(m.Assume, flag(i%2)), append(m.Ensure, flag(1-i%2))
	}
	check(t, show.Module(m), want+"assume false;\nassume true;\nassume false;\nassume true;\nensure true;\nensure false;\nensure true;\nensure false;\n")
	m.Assume, m.Ensure, m.Prio = nil, nil, make([]api.Expr, api.MaxPrio)
	for i := range m.Prio {
		m.Prio[i] = flag(1)
	}
	check(t, show.Module(m), want+strings.Repeat("prio true;\n", 6))
	m.Prio = append(m.Prio, flag(1))
	check(t, show.Module(m), "")
}

// P7.2: a module that is not valid, whatever the reason and wherever it lies.
func TestModuleNotValid(t *testing.T) {
	for i, change := range []func(m *api.Module){
		func(m *api.Module) { m.Vars[3].Name = "do" },
		func(m *api.Module) { m.Vars[3].High = 600 },
		func(m *api.Module) { m.Vars = m.Vars[:3] },
		func(m *api.Module) { m.Vars = nil },
		func(m *api.Module) { m.InitEnv = now(2) },
		func(m *api.Module) { m.InitEnv = api.Expr{} },
		func(m *api.Module) { m.InitEnv = ring() },
		func(m *api.Module) { m.InitSys = next(0) },
		func(m *api.Module) { m.InitSys = num(1) },
		func(m *api.Module) { m.InitSys = ring() },
		func(m *api.Module) { m.Env[1].Guard = next(0) },
		func(m *api.Module) { m.Env, m.Sys = m.Sys, m.Env },
		func(m *api.Module) { m.Env = make([]api.Command, 1<<20) },
		func(m *api.Module) { m.Env[0].Sets[0].E = ring() },
		func(m *api.Module) { m.Sys[1].Sets[0].E = num(1) },
		func(m *api.Module) { m.Sys[1].Sets = append(m.Sys[1].Sets, free(2)) },
		func(m *api.Module) { m.Assume[1] = next(0) },
		func(m *api.Module) { m.Ensure[1] = num(0) },
		func(m *api.Module) { m.Ensure = append(m.Ensure, flag(1), ring()) },
		func(m *api.Module) { m.Prio = []api.Expr{flag(1)} },
		func(m *api.Module) { m.Prio, m.Assume = m.Ensure, nil },
		func(m *api.Module) { *m = api.Module{} },
	} {
		m := made()
		change(&m)
		check(t, show.Module(m), "", i)
	}
}

// grow makes an expression of this sort that may read what it is told.
func grow(r *rand.Rand, l []api.Var, needs, deep int, old, env, sys bool) api.Expr {
	kid := func(needs int) api.Expr { return grow(r, l, needs, deep-1, old, env, sys) }
	if deep <= 1 || r.Intn(3) == 0 {
		v := r.Intn(len(l) + 1)
		switch {
		case v < len(l) && l[v].Sort == needs && r.Intn(2) == 0 && (l[v].Env && env || !l[v].Env && sys):
			return next(v)
		case v < len(l) && l[v].Sort == needs && (l[v].Env || old):
			return now(v)
		case needs == whole:
			return num(r.Intn(9) - 4)
		}
		return flag(r.Intn(2))
	}
	if r.Intn(5) == 0 {
		return node(api.EIf, kid(truth), kid(needs), kid(needs))
	}
	if needs == whole {
		return node(api.EAdd+r.Intn(3), kid(whole), kid(whole))
	}
	switch op := api.ENot + r.Intn(7); op {
	case api.ENot:
		return node(op, kid(truth))
	case api.ESame, api.ELess, api.EMost:
		return node(op, kid(whole), kid(whole))
	default:
		return node(op, kid(truth), kid(truth))
	}
}

func growCommand(r *rand.Rand, l []api.Var, env bool, deep int) api.Command {
	c := command(grow(r, l, truth, deep, true, !env, false))
	for _, v := range r.Perm(len(l)) {
		if l[v].Env != env || r.Intn(2) == 0 {
			continue
		}
		s := set(v, grow(r, l, l[v].Sort, deep, true, !env, false))
		if r.Intn(3) == 0 {
			s = free(v)
		}
		c.Sets = append(c.Sets, s)
	}
	return c
}

// growModule makes a valid module; deep expressions if deep is great.
func growModule(r *rand.Rand, deep int) api.Module {
	l := vars()[:r.Intn(5)]
	m := api.Module{
		Vars:    l,
		InitEnv: grow(r, l, truth, deep, false, false, false),
		InitSys: grow(r, l, truth, deep, true, false, false),
	}
	for range r.Intn(deep) {
		m.Env = append(m.Env, growCommand(r, l, true, deep))
	}
	for range r.Intn(deep) {
		m.Sys = append(m.Sys, growCommand(r, l, false, deep))
	}
	ranks := r.Intn(3) == 0
	for range r.Intn(deep) {
		e := grow(r, l, truth, deep, true, false, false)
		switch {
		case ranks:
			m.Prio = append(m.Prio, e)
		case r.Intn(2) == 0:
			m.Ensure = append(m.Ensure, e)
		default:
			m.Assume = append(m.Assume, e)
		}
	}
	return m
}

// wantExpr is laid out from forms: the children stand where the form has %s.
func wantExpr(l []api.Var, e api.Expr) string {
	var kids []any
	for _, k := range e.Kids {
		kids = append(kids, wantExpr(l, k))
	}
	switch e.Op {
	case api.ENum:
		return fmt.Sprint(e.N)
	case api.EBool:
		return fmt.Sprint(e.N != 0)
	case api.EVar:
		return l[e.N].Name
	case api.ENext:
		return l[e.N].Name + "'"
	}
	form := []string{"not %s", "%s and %s", "%s or %s", "%s => %s", "%s = %s", "%s < %s", "%s <= %s", "%s + %s", "%s - %s", "%s * %s", "if %s then %s else %s"}[e.Op-api.ENot]
	return "(" + fmt.Sprintf(form, kids...) + ")"
}

func wantCommand(l []api.Var, c api.Command, side string) string {
	var sets []string
	for _, s := range c.Sets {
		value := "any"
		if !s.Any {
			value = wantExpr(l, s.E)
		}
		sets = append(sets, l[s.Var].Name+" := "+value)
	}
	do := ""
	if len(sets) > 0 {
		do = " do " + strings.Join(sets, ", ")
	}
	return fmt.Sprintf("%s when %s%s;", side, wantExpr(l, c.Guard), do)
}

func wantModule(m api.Module) string {
	var lines []string
	line := func(form string, a ...any) { lines = append(lines, fmt.Sprintf(form, a...)) }
	for _, v := range m.Vars {
		side := map[bool]string{true: "env", false: "sys"}[v.Env]
		if v.Sort == truth {
			line("%s %s : bool;", side, v.Name)
		} else {
			line("%s %s : %d..%d;", side, v.Name, v.Low, v.High)
		}
	}
	line("init env %s;", wantExpr(m.Vars, m.InitEnv))
	line("init sys %s;", wantExpr(m.Vars, m.InitSys))
	for _, c := range m.Env {
		line("%s", wantCommand(m.Vars, c, "env"))
	}
	for _, c := range m.Sys {
		line("%s", wantCommand(m.Vars, c, "sys"))
	}
	for i, list := range [][]api.Expr{m.Assume, m.Ensure, m.Prio} {
		for _, e := range list {
			line("%s %s;", []string{"assume", "ensure", "prio"}[i], wantExpr(m.Vars, e))
		}
	}
	return strings.Join(lines, "\n") + "\n"
}

// P7.1 and P7.2: many expressions, commands and modules, against texts that are laid out in another way.
func TestSample(t *testing.T) {
	r := rand.New(rand.NewSource(7))
	l := vars()
	for i := range 5000 {
		e := grow(r, l, truth+i%2, 5, true, true, true)
		if _, err := sort.Of(l, e); err == api.OK {
			check(t, show.Expr(l, e), wantExpr(l, e))
		} else {
			check(t, show.Expr(l, e), "", i)
		}
		for _, env := range []bool{true, false} {
			c := growCommand(r, l, env, 4)
			side := map[bool]string{true: "env", false: "sys"}[env]
			check(t, show.Command(l, c, env), wantCommand(l, c, side))
		}
		m := growModule(r, 4)
		if module.May(m) != api.OK {
			t.Fatal("not valid", m)
		}
		check(t, show.Module(m), wantModule(m))
	}
}

// P7.3: small modules, so that some of them are the same, each against each.
func TestSameText(t *testing.T) {
	r := rand.New(rand.NewSource(73))
	var modules []api.Module
	var texts []string
	for i := range 1500 {
		m := growModule(r, 1+i%2)
		modules = append(modules, m)
		texts = append(texts, show.Module(m))
	}
	same := 0
	for i, a := range modules {
		for j, b := range modules[:i] {
			want := module.Same(a, b)
			if got := texts[i] == texts[j]; got != want {
				t.Fatal(got, a, b)
			}
			if want {
				same++
			}
		}
	}
	if same < 500 {
		t.Error("too few are the same", same)
	}
}

// P7.3: one thing changed is another text, if the module is still valid.
func TestOneChange(t *testing.T) {
	texts := []string{show.Module(made())}
	for i, change := range []func(m *api.Module){
		func(m *api.Module) { m.Vars[3].Name = "do_3" },
		func(m *api.Module) { m.Vars[0].Name = "d" },
		func(m *api.Module) { m.Vars[1].Low-- },
		func(m *api.Module) { m.Vars[1].High++ },
		func(m *api.Module) { m.Vars[1].Low, m.Vars[1].High = 1, 2 },
		func(m *api.Module) { m.Vars = append(m.Vars, api.Var{Name: "x", Sort: truth}) },
		func(m *api.Module) { m.Vars = append(m.Vars, api.Var{Name: "x", Sort: truth, Env: true}) },
		func(m *api.Module) { m.Vars = append(m.Vars, api.Var{Name: "x", Sort: whole, High: 1}) },
		func(m *api.Module) { m.InitEnv = now(0) },
		func(m *api.Module) { m.InitEnv.Kids[0] = flag(0) },
		func(m *api.Module) { m.InitSys = m.InitEnv },
		func(m *api.Module) { m.InitSys.Op = api.EOr },
		func(m *api.Module) { slices.Reverse(m.InitSys.Kids) },
		func(m *api.Module) { m.Env = m.Env[:1] },
		func(m *api.Module) { slices.Reverse(m.Env) },
		func(m *api.Module) { slices.Reverse(m.Env[0].Sets) },
		func(m *api.Module) { m.Env[0].Sets = m.Env[0].Sets[:1] },
		func(m *api.Module) { m.Env[0].Sets = m.Env[0].Sets[1:] },
		func(m *api.Module) { m.Env[0].Sets[1].E.Kids[1].N = 2 },
		func(m *api.Module) { m.Env[0].Sets[0] = set(0, now(2)) },
		func(m *api.Module) { m.Sys, m.Env = m.Sys[:1], append(m.Env, command(flag(0))) },
		func(m *api.Module) { m.Sys = append(m.Sys, command(flag(1))) },
		func(m *api.Module) { m.Sys = slices.Insert(m.Sys, 0, command(flag(1))) },
		func(m *api.Module) { m.Sys[1].Sets[0].E = now(0) },
		func(m *api.Module) { m.Sys[1].Guard = next(0) },
		func(m *api.Module) { m.Assume = m.Assume[:1] },
		func(m *api.Module) { slices.Reverse(m.Assume) },
		func(m *api.Module) { m.Assume, m.Ensure = m.Ensure, m.Assume },
		func(m *api.Module) { m.Assume, m.Ensure = slices.Concat(m.Assume, m.Ensure), nil },
		func(m *api.Module) { m.Assume, m.Ensure = nil, slices.Concat(m.Assume, m.Ensure) },
		func(m *api.Module) { m.Prio, m.Assume, m.Ensure = slices.Concat(m.Assume, m.Ensure), nil, nil },
	} {
		m := made()
		change(&m)
		if module.May(m) != api.OK {
			t.Fatal(i, "not valid")
		}
		text := show.Module(m)
		if at := slices.Index(texts, text); at >= 0 {
			t.Error(i, "as", at, text)
		}
		texts = append(texts, text)
	}
	// nil and empty lists are the same.
	m := made()
	m.Prio = []api.Expr{}
	m.Env[1].Sets = []api.Set{}
	m.Env[0].Sets[0].E.Kids = []api.Expr{}
	m.Env[1].Guard.Kids = []api.Expr{ring()}[:0]
	check(t, show.Module(m), madeText)
}

// R2
func TestArgumentsStay(t *testing.T) {
	m := made()
	m.Env = append(make([]api.Command, 0, 20), m.Env...)
	show.Module(m)
	show.Expr(m.Vars, m.InitSys)
	show.Command(m.Vars, m.Sys[0], false)
	show.Command(m.Vars, m.Sys[0], true)
	if !reflect.DeepEqual(m, made()) || !reflect.DeepEqual(m.Env[:20][2:], make([]api.Command, 18)) {
		t.Error("changed")
	}
}
