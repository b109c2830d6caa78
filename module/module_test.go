package module_test

import (
	"math"
	"math/rand"
	"reflect"
	"slices"
	"testing"

	"parry/api"
	"parry/module"
	"parry/sort"
)

const (
	truth = api.SBool
	whole = api.SInt
)

func leaf(op, n int) api.Expr { return api.Expr{Op: op, N: n} }

func node(op int, kids ...api.Expr) api.Expr { return api.Expr{Op: op, Kids: kids} }

func num(n int) api.Expr { return leaf(api.ENum, n) }

func flag(n int) api.Expr { return leaf(api.EBool, n) }

func now(n int) api.Expr { return leaf(api.EVar, n) }

func next(n int) api.Expr { return leaf(api.ENext, n) }

func set(v int, e api.Expr) api.Set { return api.Set{Var: v, E: e} }

func free(v int) api.Set { return api.Set{Var: v, Any: true} }

func command(guard api.Expr, sets ...api.Set) api.Command {
	return api.Command{Guard: guard, Sets: sets}
}

// vars: each sort on each side, the sides mixed.
func vars() []api.Var {
	return []api.Var{
		{Name: "a", Env: true, Sort: truth},
		{Name: "b", Sort: whole, Low: -1, High: 2},
		{Name: "c", Sort: truth},
		{Name: "d", Env: true, Sort: whole, Low: 3, High: 5},
	}
}

// flags has this many variables of one side.
func flags(n int, env bool) []api.Var {
	var l []api.Var
	for i := range n {
		l = append(l, api.Var{Name: string(rune('a' + i)), Env: env, Sort: truth})
	}
	return l
}

// made is a valid module, with something in each of its lists but Prio.
func made() api.Module {
	return api.Module{
		Vars:    vars(),
		InitEnv: node(api.ENot, now(0)),
		InitSys: node(api.EAnd, now(0), now(2)),
		Env: []api.Command{
			command(now(2), free(0), set(3, node(api.EAdd, now(3), num(1)))),
			command(flag(1)),
		},
		Sys: []api.Command{
			command(node(api.EThen, next(0), now(2)), set(1, node(api.ESub, next(3), now(1))), free(2)),
			command(now(0), set(2, next(0))),
		},
		Assume: []api.Expr{now(0), node(api.ELess, now(3), num(5))},
		Ensure: []api.Expr{now(2), node(api.ESame, now(1), num(0))},
	}
}

// ranked is a valid module whose goal are priorities.
func ranked() api.Module {
	m := made()
	m.Assume, m.Ensure = nil, nil
	m.Prio = []api.Expr{now(0), now(2), flag(0)}
	return m
}

// ring holds itself.
func ring() api.Expr {
	kids := make([]api.Expr, 2)
	for i := range kids {
		kids[i] = api.Expr{Op: api.EAnd, Kids: kids}
	}
	return kids[0]
}

// tall has this depth.
func tall(deep int) api.Expr {
	e := flag(1)
	for range deep - 1 {
		e = node(api.ENot, e)
	}
	return e
}

// broad has the sort SBool and 2 n - 1 nodes.
func broad(n int) api.Expr {
	if n == 1 {
		return flag(1)
	}
	return node(api.EAnd, broad(n/2), broad(n-n/2))
}

// What is checked may hold itself, so that only where it stands is told, not what it is.
func checkCommand(t *testing.T, l []api.Var, c api.Command, env bool, want api.Errno, where ...any) {
	t.Helper()
	if got := module.MayCommand(l, c, env); got != want {
		t.Error("MayCommand", env, got, "not", want, "at", where)
	}
}

func checkMay(t *testing.T, m api.Module, want api.Errno, where ...any) {
	t.Helper()
	if got := module.May(m); got != want {
		t.Error("May", got, "not", want, "at", where)
	}
}

// P5.1: every variable, read by each side, in the Guard and in a Set.
func TestCommandReads(t *testing.T) {
	l := vars()
	for _, env := range []bool{true, false} {
		for v, x := range l {
			own := slices.IndexFunc(l, func(y api.Var) bool { return y.Env == env && y.Sort == x.Sort })
			wantNext := api.ErrNext
			if x.Env && !env {
				wantNext = api.OK
			}
			if x.Sort == truth {
				checkCommand(t, l, command(now(v)), env, api.OK, v)
				checkCommand(t, l, command(next(v)), env, wantNext, v)
			}
			checkCommand(t, l, command(node(api.ESame, now(v), now(v))), env, api.OK, v)
			checkCommand(t, l, command(node(api.ESame, now(v), next(v))), env, wantNext, v)
			checkCommand(t, l, command(flag(0), set(own, now(v))), env, api.OK, v)
			checkCommand(t, l, command(flag(0), set(own, next(v))), env, wantNext, v)
		}
	}
}

// P5.1: every variable, set by each side, to any value and to those of each sort.
func TestCommandSets(t *testing.T) {
	l := vars()
	for _, env := range []bool{true, false} {
		for v, x := range l {
			side := api.OK
			if x.Env != env {
				side = api.ErrName
			}
			checkCommand(t, l, command(flag(1), free(v)), env, side, v)
			for _, e := range []api.Expr{num(999), flag(1)} {
				want := side
				if has, _ := sort.Of(l, e); want == api.OK && has != x.Sort {
					want = api.ErrSort
				}
				checkCommand(t, l, command(flag(1), set(v, e)), env, want, v, e)
			}
		}
		for _, v := range []int{-1, 4, 6, math.MinInt, math.MaxInt} {
			checkCommand(t, l, command(flag(1), free(v)), env, api.ErrName, v)
			checkCommand(t, l, command(flag(1), set(v, flag(1))), env, api.ErrName, v)
			checkCommand(t, nil, command(flag(1), free(v)), env, api.ErrName, v)
		}
		checkCommand(t, nil, command(flag(1), free(0)), env, api.ErrName)
		checkCommand(t, nil, command(flag(1)), env, api.OK)
		checkCommand(t, []api.Var{}, api.Command{Guard: flag(0), Sets: []api.Set{}}, env, api.OK)
	}
}

// P5.1: a variable is set once, whatever stands between.
func TestCommandSetsOnce(t *testing.T) {
	for _, env := range []bool{true, false} {
		l := flags(api.MaxVars, env)
		for a := range l {
			for b := range l {
				sets := []api.Set{free(a), set(b, flag(1))}
				want := api.OK
				if a == b {
					want = api.ErrName
				}
				checkCommand(t, l, command(flag(1), sets...), env, want, a, b)
				other := (max(a, b) + 1) % len(l)
				if other != a && other != b {
					checkCommand(t, l, command(flag(1), sets[0], free(other), sets[1]), env, want, a, b)
				}
			}
		}
	}
}

// P5.1: MaxVars Sets, and one more.
func TestCommandFull(t *testing.T) {
	for _, env := range []bool{true, false} {
		l := flags(api.MaxVars, env)
		c := command(flag(1))
		for v := range l {
			c.Sets = append(c.Sets, free(len(l)-1-v))
			checkCommand(t, l, c, env, api.OK, len(c.Sets))
		}
		c.Sets = append(c.Sets, free(0))
		checkCommand(t, l, c, env, api.ErrFull)
		// What is beyond the length is not read.
		c.Sets = c.Sets[:api.MaxVars]
		checkCommand(t, l, c, env, api.OK, len(c.Sets))
		// Fewer variables leave no less room.
		checkCommand(t, l[:1], command(flag(1), make([]api.Set, 6)...), env, api.ErrArg)
		checkCommand(t, l[:1], command(flag(1), make([]api.Set, 7)...), env, api.ErrFull)
		checkCommand(t, l[:1], command(flag(1), make([]api.Set, 1<<20)...), env, api.ErrFull)
	}
}

// P5.1: what stands beside Any is the zero Expr, with nil or empty children.
func TestCommandAny(t *testing.T) {
	for i, x := range []struct {
		e    api.Expr
		want api.Errno
	}{
		{api.Expr{}, api.OK},
		{api.Expr{Kids: []api.Expr{}}, api.OK},
		{api.Expr{Kids: []api.Expr{flag(1)}[:0]}, api.OK},
		{flag(1), api.ErrArg},
		{flag(0), api.ErrArg},
		{num(0), api.ErrArg},
		{next(0), api.ErrArg},
		{leaf(0, 1), api.ErrArg},
		{leaf(-1, 0), api.ErrArg},
		{node(0, api.Expr{}), api.ErrArg},
		{tall(api.MaxDeep + 1), api.ErrArg},
		{broad(api.MaxNodes), api.ErrArg},
		{ring(), api.ErrArg},
	} {
		checkCommand(t, vars(), command(flag(1), api.Set{Var: 0, Any: true, E: x.e}), true, x.want, i)
		checkCommand(t, vars(), command(flag(1), api.Set{Var: 1, Any: true, E: x.e}), false, x.want, i)
	}
}

// P5.1: the first error in the order of the document.
func TestCommandOrder(t *testing.T) {
	l := vars()
	bad := func(name string, sort, high int) []api.Var {
		return []api.Var{{Name: name, Env: true, Sort: sort, High: high}}
	}
	seven := make([]api.Set, api.MaxVars+1)
	odd := api.Set{Var: 0, Any: true, E: flag(1)}
	for i, x := range []struct {
		l    []api.Var
		c    api.Command
		env  bool
		want api.Errno
	}{
		// The variables before the Guard.
		{bad("if", truth, 0), command(num(1001), seven...), true, api.ErrName},
		{bad("a", 3, 0), command(num(1001), seven...), true, api.ErrSort},
		{bad("a", truth, 1), command(num(1001), seven...), true, api.ErrOver},
		{bad("a", whole, 512), command(num(1001), seven...), true, api.ErrFull},
		{bad("a", whole, 512), command(flag(1)), false, api.ErrFull},
		// The Guard before the Sets.
		{l, api.Command{Sets: seven}, true, api.ErrArg},
		{l, command(ring(), free(9)), true, api.ErrFull},
		{l, command(now(4), seven...), false, api.ErrName},
		{l, command(num(1), seven...), true, api.ErrSort},
		{l, command(next(0), seven...), true, api.ErrNext},
		{l, command(next(2), free(9)), false, api.ErrNext},
		// Their number before each of them.
		{l, command(flag(1), free(9), odd, odd, odd, odd, odd, odd), true, api.ErrFull},
		// In a Set: the variable, then Any, then E.
		{l, command(flag(1), api.Set{Var: 4, Any: true, E: flag(1)}), true, api.ErrName},
		{l, command(flag(1), odd), false, api.ErrName},
		{l, command(flag(1), set(1, next(1))), true, api.ErrName},
		{l, command(flag(1), free(0), odd), true, api.ErrName},
		{l, command(flag(1), odd, free(0)), true, api.ErrArg},
		// In E as for the Guard.
		{l, command(flag(1), set(0, api.Expr{})), true, api.ErrArg},
		{l, command(flag(1), set(0, ring())), true, api.ErrFull},
		{l, command(flag(1), set(0, tall(13))), true, api.ErrFull},
		{l, command(flag(1), set(0, tall(12))), true, api.OK},
		{l, command(flag(1), set(0, now(5))), true, api.ErrName},
		{l, command(flag(1), set(0, next(3))), true, api.ErrSort},
		{l, command(flag(1), set(1, next(2))), false, api.ErrSort},
		{l, command(flag(1), set(2, next(2))), false, api.ErrNext},
		// The Sets in order, each with all of its errors.
		{l, command(flag(1), set(0, next(0)), free(9)), true, api.ErrNext},
		{l, command(flag(1), free(9), set(0, next(0))), true, api.ErrName},
		{l, command(flag(1), set(0, num(1)), odd), true, api.ErrSort},
		{l, command(flag(1), free(3), odd, free(3)), true, api.ErrArg},
		{l, command(flag(1), free(0), set(3, next(3))), true, api.ErrNext},
		{l, command(flag(1), free(2), set(1, next(1))), false, api.ErrNext},
	} {
		checkCommand(t, x.l, x.c, x.env, x.want, i)
	}
	// Beyond the length of the variables there is none.
	checkCommand(t, l[:3], command(flag(1), free(3)), true, api.ErrName)
	checkCommand(t, l[:3], command(node(api.ESame, now(3), num(4))), true, api.ErrName)
}

// fault is one thing wrong in made, and its error; those of one place cannot be together.
type fault struct {
	place string
	err   api.Errno
	make  func(m *api.Module)
}

// faults stand in the order of the document, so that of two the former is told.
func faults() []fault {
	add := func(list *[]api.Command, n int, c api.Command) {
		for len(*list) < n {
			*list = append(*list, c)
		}
	}
	return []fault{
		{"vars", api.ErrOver, func(m *api.Module) { m.Vars[3].High = 1001 }},
		{"vars", api.ErrName, func(m *api.Module) { m.Vars[3].Name = "a" }},
		{"vars", api.ErrSort, func(m *api.Module) { m.Vars[3].Sort = 0 }},
		{"vars", api.ErrFull, func(m *api.Module) { m.Vars[1].High, m.Vars[3].High = 62, 66 }},
		{"init env", api.ErrName, func(m *api.Module) { m.InitEnv = now(2) }},
		{"init env", api.ErrNext, func(m *api.Module) { m.InitEnv = next(0) }},
		{"init env", api.ErrNext, func(m *api.Module) { m.InitEnv = next(2) }},
		{"init env", api.ErrSort, func(m *api.Module) { m.InitEnv = num(1) }},
		{"init env", api.ErrArg, func(m *api.Module) { m.InitEnv = api.Expr{} }},
		{"init env", api.ErrFull, func(m *api.Module) { m.InitEnv = ring() }},
		{"init sys", api.ErrSort, func(m *api.Module) { m.InitSys = now(1) }},
		{"init sys", api.ErrNext, func(m *api.Module) { m.InitSys = next(0) }},
		{"init sys", api.ErrNext, func(m *api.Module) { m.InitSys = next(2) }},
		{"init sys", api.ErrName, func(m *api.Module) { m.InitSys = now(4) }},
		{"init sys", api.ErrFull, func(m *api.Module) { m.InitSys = tall(13) }},
		{"env", api.ErrFull, func(m *api.Module) { add(&m.Env, 13, command(flag(1))) }},
		{"sys", api.ErrFull, func(m *api.Module) { add(&m.Sys, 13, command(flag(1))) }},
		{"assume", api.ErrFull, func(m *api.Module) { m.Assume = make([]api.Expr, 5) }},
		{"ensure", api.ErrFull, func(m *api.Module) { m.Ensure = make([]api.Expr, 5) }},
		{"prio", api.ErrFull, func(m *api.Module) { m.Prio = make([]api.Expr, 7) }},
		{"env", api.ErrNext, func(m *api.Module) { m.Env[0].Guard = next(0) }},
		{"env", api.ErrArg, func(m *api.Module) { m.Env[0].Sets[0].E = flag(1) }},
		{"env", api.ErrName, func(m *api.Module) { m.Env[1].Sets = []api.Set{free(2)} }},
		{"env", api.ErrSort, func(m *api.Module) { add(&m.Env, 12, command(num(1))) }},
		{"sys", api.ErrName, func(m *api.Module) { m.Sys[0].Sets[0].Var = 0 }},
		{"sys", api.ErrSort, func(m *api.Module) { m.Sys[1].Sets[0].E = num(1) }},
		{"sys", api.ErrFull, func(m *api.Module) { m.Sys[1].Sets = make([]api.Set, 7) }},
		{"sys", api.ErrNext, func(m *api.Module) { add(&m.Sys, 12, command(next(2))) }},
		{"prio", api.ErrArg, func(m *api.Module) { m.Prio = []api.Expr{num(1)} }},
		{"assume", api.ErrNext, func(m *api.Module) { m.Assume[0] = next(0) }},
		{"assume", api.ErrSort, func(m *api.Module) { m.Assume[1] = now(3) }},
		{"assume", api.ErrNext, func(m *api.Module) { m.Assume = append(m.Assume, now(2), next(2)) }},
		{"ensure", api.ErrSort, func(m *api.Module) { m.Ensure[0] = num(0) }},
		{"ensure", api.ErrName, func(m *api.Module) { m.Ensure[1] = now(5) }},
		{"ensure", api.ErrFull, func(m *api.Module) { m.Ensure = append(m.Ensure, now(0), broad(31)) }},
	}
}

// P5.2: each error alone, and of two the first.
func TestMayOrder(t *testing.T) {
	checkMay(t, made(), api.OK)
	list := faults()
	for i, first := range list {
		m := made()
		first.make(&m)
		checkMay(t, m, first.err, i, first.place)
		for j, second := range list[i+1:] {
			if first.place == second.place {
				continue
			}
			m := made()
			second.make(&m)
			first.make(&m)
			checkMay(t, m, first.err, i, first.place, i+1+j, second.place)
		}
	}
}

// P5.2: a list tells the error of its first thing that has one.
func TestMayFirstOfList(t *testing.T) {
	for i, x := range []struct {
		wrong []api.Expr
		want  api.Errno
	}{
		{[]api.Expr{num(1), next(2)}, api.ErrSort},
		{[]api.Expr{next(2), num(1)}, api.ErrNext},
		{[]api.Expr{flag(1), now(4), ring()}, api.ErrName},
		{[]api.Expr{ring(), {}, now(4)}, api.ErrFull},
		{[]api.Expr{now(2), flag(0), {}, num(1)}, api.ErrArg},
	} {
		var commands []api.Command
		for _, e := range x.wrong {
			commands = append(commands, command(e))
		}
		for j, change := range []func(m *api.Module){
			func(m *api.Module) { m.Assume = x.wrong },
			func(m *api.Module) { m.Ensure = x.wrong },
			func(m *api.Module) { m.Assume, m.Ensure, m.Prio = nil, nil, x.wrong },
			func(m *api.Module) { m.Env = commands },
			func(m *api.Module) { m.Sys = commands },
		} {
			m := made()
			change(&m)
			checkMay(t, m, x.want, i, j)
		}
	}
}

// P5.2: the numbers of things, up to their limits and one beyond.
func TestMayLimits(t *testing.T) {
	for n := range 15 {
		commands := make([]api.Command, n)
		goals := make([]api.Expr, n)
		for i := range n {
			commands[i], goals[i] = command(flag(1)), flag(1)
		}
		for i, x := range []struct {
			m    api.Module
			most int
		}{
			{api.Module{Env: commands}, api.MaxCmds},
			{api.Module{Sys: commands}, api.MaxCmds},
			{api.Module{Env: commands, Sys: commands}, api.MaxCmds},
			{api.Module{Assume: goals}, api.MaxGoals},
			{api.Module{Ensure: goals}, api.MaxGoals},
			{api.Module{Assume: goals, Ensure: goals}, api.MaxGoals},
			{api.Module{Prio: goals}, api.MaxPrio},
		} {
			x.m.InitEnv, x.m.InitSys = flag(1), flag(1)
			want := api.OK
			if n > x.most {
				want = api.ErrFull
			}
			checkMay(t, x.m, want, n, i)
		}
	}
}

// P5.2: Prio stands alone.
func TestMayOneGoal(t *testing.T) {
	e := []api.Expr{flag(1)}
	for bits := range 8 {
		m := api.Module{InitEnv: flag(1), InitSys: flag(1), Assume: []api.Expr{}, Ensure: []api.Expr{}, Prio: []api.Expr{}}
		if bits&1 != 0 {
			m.Assume = e
		}
		if bits&2 != 0 {
			m.Ensure = e
		}
		want := api.OK
		if bits&4 != 0 {
			m.Prio = e
			if bits != 4 {
				want = api.ErrArg
			}
		}
		checkMay(t, m, want, bits)
	}
	checkMay(t, ranked(), api.OK)
	checkMay(t, api.Module{}, api.ErrArg)
	checkMay(t, api.Module{InitEnv: flag(1), InitSys: flag(1)}, api.OK)
}

// P5.2: what each condition may read.
func TestMayReads(t *testing.T) {
	l := vars()
	truths := func(v int, e func(int) api.Expr) api.Expr { return node(api.ESame, e(v), e(v)) }
	for v, x := range l {
		wantInit := api.OK
		if !x.Env {
			wantInit = api.ErrName
		}
		m := made()
		m.InitEnv = truths(v, now)
		checkMay(t, m, wantInit, v)
		for i, change := range []func(m *api.Module, e api.Expr){
			func(m *api.Module, e api.Expr) { m.InitSys = e },
			func(m *api.Module, e api.Expr) { m.Assume = []api.Expr{e} },
			func(m *api.Module, e api.Expr) { m.Ensure = []api.Expr{now(0), e} },
			func(m *api.Module, e api.Expr) { m.Assume, m.Ensure, m.Prio = nil, nil, []api.Expr{e} },
			func(m *api.Module, e api.Expr) { m.InitEnv = e },
		} {
			m := made()
			change(&m, truths(v, next))
			checkMay(t, m, api.ErrNext, v, i)
			if i < 4 {
				change(&m, truths(v, now))
				checkMay(t, m, api.OK, v, i)
			}
		}
	}
}

// P5.2, and R3: what is huge, or holds itself.
func TestMayHuge(t *testing.T) {
	m := made()
	m.Env = make([]api.Command, 1<<20)
	checkMay(t, m, api.ErrFull)
	m = made()
	m.Vars = make([]api.Var, 1<<20)
	checkMay(t, m, api.ErrName)
	m = made()
	m.InitSys, m.Ensure = ring(), make([]api.Expr, 1<<20)
	checkMay(t, m, api.ErrFull)
	m = made()
	m.Ensure = []api.Expr{broad(30), tall(12), {Op: api.EAnd, Kids: make([]api.Expr, 1<<20)}}
	checkMay(t, m, api.ErrFull)
}

// copyOf copies a module by hand: no list is shared.
func copyOf(m api.Module) api.Module {
	m.Vars = slices.Clone(m.Vars)
	m.InitEnv, m.InitSys = copyExpr(m.InitEnv), copyExpr(m.InitSys)
	m.Env, m.Sys = copyCommands(m.Env), copyCommands(m.Sys)
	m.Assume, m.Ensure, m.Prio = copyExprs(m.Assume), copyExprs(m.Ensure), copyExprs(m.Prio)
	return m
}

func copyCommands(l []api.Command) []api.Command {
	var r []api.Command
	for _, c := range l {
		c.Guard, c.Sets = copyExpr(c.Guard), slices.Clone(c.Sets)
		for i := range c.Sets {
			c.Sets[i].E = copyExpr(c.Sets[i].E)
		}
		r = append(r, c)
	}
	return r
}

func copyExprs(l []api.Expr) []api.Expr {
	var r []api.Expr
	for _, e := range l {
		r = append(r, copyExpr(e))
	}
	return r
}

func copyExpr(e api.Expr) api.Expr {
	e.Kids = copyExprs(e.Kids)
	return e
}

// changes: every field of a module, changed one at a time.
func changes() []func(m *api.Module) {
	return []func(m *api.Module){
		func(m *api.Module) { m.Vars[3].Name = "e" },
		func(m *api.Module) { m.Vars[0].Env = false },
		func(m *api.Module) { m.Vars[1].Sort = truth },
		func(m *api.Module) { m.Vars[1].Low-- },
		func(m *api.Module) { m.Vars[3].High++ },
		func(m *api.Module) { m.Vars = m.Vars[:3] },
		func(m *api.Module) { m.Vars = nil },
		func(m *api.Module) { slices.Reverse(m.Vars) },
		func(m *api.Module) { m.InitEnv.Op = 0 },
		func(m *api.Module) { m.InitEnv.N = 1 },
		func(m *api.Module) { m.InitEnv.Kids[0].N = 3 },
		func(m *api.Module) { m.InitEnv = m.InitSys },
		func(m *api.Module) { m.InitSys.Kids[1].Op = api.ENext },
		func(m *api.Module) { slices.Reverse(m.InitSys.Kids) },
		func(m *api.Module) { m.InitSys.Kids = m.InitSys.Kids[:1] },
		func(m *api.Module) { m.Env, m.Sys = m.Sys, m.Env },
		func(m *api.Module) { m.Env = m.Env[:1] },
		func(m *api.Module) { slices.Reverse(m.Env) },
		func(m *api.Module) { m.Env[1].Guard.N = 0 },
		func(m *api.Module) { m.Env[1].Sets = []api.Set{free(0)} },
		func(m *api.Module) { m.Env[0].Sets[0].Any = false },
		func(m *api.Module) { m.Env[0].Sets[0].Var = 3 },
		func(m *api.Module) { m.Env[0].Sets[0].E = flag(0) },
		func(m *api.Module) { m.Env[0].Sets[1].E.Kids[1].N = 2 },
		func(m *api.Module) { slices.Reverse(m.Env[0].Sets) },
		func(m *api.Module) { m.Env[0].Sets = m.Env[0].Sets[:1] },
		func(m *api.Module) { m.Sys = nil },
		func(m *api.Module) { m.Sys = append(m.Sys, command(flag(1))) },
		func(m *api.Module) { m.Sys[0].Guard.Kids[0].Op = api.EVar },
		func(m *api.Module) { m.Sys[1].Sets[0].Var = 1 },
		func(m *api.Module) { m.Sys[1].Sets[0].Any = true },
		func(m *api.Module) { m.Sys[1].Sets[0].E.N = 3 },
		func(m *api.Module) { m.Assume[1].Kids[1].N = 4 },
		func(m *api.Module) { m.Assume = m.Assume[:1] },
		func(m *api.Module) { slices.Reverse(m.Assume) },
		func(m *api.Module) { m.Assume, m.Ensure = m.Ensure, m.Assume },
		func(m *api.Module) { m.Ensure[0].N = 0 },
		func(m *api.Module) { m.Ensure = append(m.Ensure, now(2)) },
		func(m *api.Module) { slices.Reverse(m.Ensure) },
		func(m *api.Module) { m.Prio = []api.Expr{flag(1)} },
		func(m *api.Module) { m.Prio = m.Ensure; m.Ensure = nil },
	}
}

// P5.2: equal in everything, and in nothing less, whether valid or not.
func TestSame(t *testing.T) {
	list := changes()
	modules := []api.Module{made()}
	for _, change := range list {
		m := copyOf(made())
		change(&m)
		modules = append(modules, m)
	}
	for i, a := range modules {
		for j, b := range modules {
			if got := module.Same(a, copyOf(b)); got != (i == j) {
				t.Error(i, j, got)
			}
		}
	}
	m, other := ranked(), ranked()
	if !module.Same(m, other) || module.Same(m, made()) || !module.Same(api.Module{}, api.Module{}) {
		t.Error("prio")
	}
	other.Prio[1].N = 0
	if module.Same(m, other) || module.Same(other, m) {
		t.Error("a changed prio")
	}
}

// R2: nil and empty lists are equivalent, and what is beyond the length of a list is not read.
func TestSameLists(t *testing.T) {
	empty := api.Module{
		Vars:    []api.Var{{Name: "x"}}[:0],
		InitEnv: api.Expr{Kids: []api.Expr{}},
		InitSys: api.Expr{Kids: []api.Expr{ring()}[:0]},
		Env:     []api.Command{command(ring())}[:0],
		Sys:     []api.Command{},
		Assume:  []api.Expr{ring()}[:0],
		Ensure:  []api.Expr{},
		Prio:    []api.Expr{},
	}
	if !module.Same(empty, api.Module{}) || !module.Same(api.Module{}, empty) {
		t.Error("nil and empty")
	}
	a, b := made(), made()
	a.Env[1].Sets, b.Env[1].Sets = nil, []api.Set{}
	a.Env[0].Sets[0].E.Kids = []api.Expr{}
	if !module.Same(a, b) || !module.Same(b, a) {
		t.Error("nil and empty Sets")
	}
}

// P5.2: an expression that is too great is equal to nothing, wherever it stands; one at the limit is.
func TestSameTooGreat(t *testing.T) {
	most := node(api.ENot, broad(30)) // 60 nodes
	for i, x := range []struct {
		e    api.Expr
		want bool
	}{
		{most, true},
		{broad(31), false},
		{tall(api.MaxDeep), true},
		{tall(api.MaxDeep + 1), false},
		{api.Expr{Op: 99, N: -1, Kids: make([]api.Expr, 59)}, true},
		{api.Expr{Op: 99, N: -1, Kids: make([]api.Expr, 60)}, false},
		{ring(), false},
	} {
		for j, change := range []func(m *api.Module){
			func(m *api.Module) { m.InitEnv = x.e },
			func(m *api.Module) { m.InitSys = x.e },
			func(m *api.Module) { m.Env[1].Guard = x.e },
			func(m *api.Module) { m.Env[0].Sets[0].E = x.e },
			func(m *api.Module) { m.Sys[0].Guard = x.e },
			func(m *api.Module) { m.Sys[0].Sets[0].E = x.e },
			func(m *api.Module) { m.Assume[1] = x.e },
			func(m *api.Module) { m.Ensure[1] = x.e },
			func(m *api.Module) { m.Prio = []api.Expr{now(0), x.e} },
		} {
			m := made()
			change(&m)
			if got := module.Same(m, m); got != x.want {
				t.Error(i, j, got)
			}
			if module.Same(m, made()) || module.Same(made(), m) {
				t.Error(i, j, "another")
			}
		}
	}
}

// P5.2
func TestGoals(t *testing.T) {
	for _, x := range [][3]int{{0, 0, 0}, {1, 0, 0}, {0, 2, 0}, {0, 0, 3}, {4, 3, 0}, {1, 2, 6}, {9, 70, 500}} {
		m := api.Module{Assume: make([]api.Expr, x[0], 600), Ensure: make([]api.Expr, x[1], 600), Prio: make([]api.Expr, x[2], 600)}
		if a, b, c := module.Goals(m); [3]int{a, b, c} != x {
			t.Error(a, b, c, x)
		}
	}
	if a, b, c := module.Goals(made()); a != 2 || b != 2 || c != 0 {
		t.Error(a, b, c)
	}
}

// grow makes an expression of this sort that may read what it is told, but at one node in slip.
func grow(r *rand.Rand, l []api.Var, needs, deep int, old, env, sys bool, slip int) api.Expr {
	kid := func(needs int) api.Expr { return grow(r, l, needs, deep-1, old, env, sys, slip) }
	if slip > 0 && r.Intn(slip) == 0 {
		return leaf(r.Intn(api.ENot), r.Intn(len(l)+1))
	}
	if deep <= 1 || r.Intn(3) == 0 {
		v := r.Intn(len(l) + 1)
		switch {
		case v < len(l) && l[v].Sort == needs && r.Intn(2) == 0 && (l[v].Env && env || !l[v].Env && sys):
			return next(v)
		case v < len(l) && l[v].Sort == needs && (l[v].Env || old):
			return now(v)
		case needs == whole:
			return num(r.Intn(9) - 4)
		}
		return flag(r.Intn(2))
	}
	if r.Intn(5) == 0 {
		return node(api.EIf, kid(truth), kid(needs), kid(needs))
	}
	if needs == whole {
		return node(api.EAdd+r.Intn(3), kid(whole), kid(whole))
	}
	switch op := api.ENot + r.Intn(7); op {
	case api.ENot:
		return node(op, kid(truth))
	case api.ESame, api.ELess, api.EMost:
		return node(op, kid(whole), kid(whole))
	default:
		return node(op, kid(truth), kid(truth))
	}
}

func growCommand(r *rand.Rand, l []api.Var, env bool, slip int) api.Command {
	c := command(grow(r, l, truth, 3, true, !env, false, slip))
	for _, v := range r.Perm(len(l)) {
		if l[v].Env != env && (slip == 0 || r.Intn(slip) > 0) || r.Intn(2) == 0 {
			continue
		}
		s := set(v, grow(r, l, l[v].Sort, 3, true, !env, false, slip))
		if r.Intn(3) == 0 {
			s = free(v)
		}
		if slip > 0 && r.Intn(slip) == 0 {
			s.Any = !s.Any
		}
		c.Sets = append(c.Sets, s)
		if slip > 0 && r.Intn(slip) == 0 {
			c.Sets = append(c.Sets, s)
		}
	}
	return c
}

func growModule(r *rand.Rand, slip int) api.Module {
	l := vars()[:1+r.Intn(4)]
	m := api.Module{
		Vars:    l,
		InitEnv: grow(r, l, truth, 3, false, false, false, slip),
		InitSys: grow(r, l, truth, 3, true, false, false, slip),
	}
	for range r.Intn(4) {
		m.Env = append(m.Env, growCommand(r, l, true, slip))
		m.Sys = append(m.Sys, growCommand(r, l, false, slip))
	}
	for range r.Intn(3) {
		e := grow(r, l, truth, 3, true, false, false, slip)
		switch r.Intn(9) {
		case 0:
			m.Prio = append(m.Prio, e)
		case 1, 2, 3:
			m.Ensure = append(m.Ensure, e)
		default:
			m.Assume = append(m.Assume, e)
		}
	}
	return m
}

// wantCommand lists all that is wrong, with OK where nothing is, in the order of the document.
func wantCommand(l []api.Var, c api.Command, env bool) []api.Errno {
	is := func(wrong bool, err api.Errno) api.Errno {
		if wrong {
			return err
		}
		return api.OK
	}
	errs := []api.Errno{sort.Needs(l, c.Guard, truth, true, !env, false), is(len(c.Sets) > 6, api.ErrFull)}
	for i, s := range c.Sets {
		again := slices.ContainsFunc(c.Sets[:i], func(x api.Set) bool { return x.Var == s.Var })
		errs = append(errs, is(again || l[s.Var].Env != env, api.ErrName))
		if s.Any {
			errs = append(errs, is(s.E.Op != 0 || s.E.N != 0 || s.E.Kids != nil, api.ErrArg))
		} else {
			errs = append(errs, sort.Needs(l, s.E, l[s.Var].Sort, true, !env, false))
		}
	}
	return errs
}

// wantMay is for the modules of growModule, which have few of everything.
func wantMay(m api.Module) []api.Errno {
	errs := []api.Errno{
		sort.Needs(m.Vars, m.InitEnv, truth, false, false, false),
		sort.Needs(m.Vars, m.InitSys, truth, true, false, false),
	}
	for _, c := range m.Env {
		errs = append(errs, wantCommand(m.Vars, c, true)...)
	}
	for _, c := range m.Sys {
		errs = append(errs, wantCommand(m.Vars, c, false)...)
	}
	if m.Prio != nil && (m.Assume != nil || m.Ensure != nil) {
		errs = append(errs, api.ErrArg)
	}
	for _, e := range slices.Concat(m.Assume, m.Ensure, m.Prio) {
		errs = append(errs, sort.Needs(m.Vars, e, truth, true, false, false))
	}
	return errs
}

func first(errs []api.Errno) api.Errno {
	for _, err := range errs {
		if err != api.OK {
			return err
		}
	}
	return api.OK
}

// P5.1 and P5.2: many modules and commands, against a list of all that is wrong in them.
func TestSample(t *testing.T) {
	r := rand.New(rand.NewSource(5))
	met := map[api.Errno]int{}
	for i := range 20000 {
		m := growModule(r, (i%4)*12)
		want := first(wantMay(m))
		checkMay(t, m, want, m)
		met[want]++
		if !module.Same(m, copyOf(m)) {
			t.Fatal("not the same as its copy", m)
		}
		for j, c := range slices.Concat(m.Env, m.Sys) {
			env := j < len(m.Env)
			checkCommand(t, m.Vars, c, env, first(wantCommand(m.Vars, c, env)), m.Vars, c)
			checkCommand(t, m.Vars, c, !env, first(wantCommand(m.Vars, c, !env)), m.Vars, c)
		}
	}
	for _, err := range []api.Errno{api.OK, api.ErrArg, api.ErrName, api.ErrSort, api.ErrNext} {
		if met[err] < 100 {
			t.Error("too few of", err, met[err])
		}
	}
}

// P5.3: a valid command may be laid in anywhere, until there is no room; one that is not valid may not.
func TestOneMoreCommand(t *testing.T) {
	r := rand.New(rand.NewSource(53))
	wrong := 0
	for i := range 300 {
		m := growModule(r, 0)
		if module.May(m) != api.OK {
			if len(m.Prio) == 0 {
				t.Fatal("not valid", m)
			}
			m.Prio = nil
		}
		env := i%2 == 0
		list := &m.Sys
		if env {
			list = &m.Env
		}
		for {
			c := growCommand(r, m.Vars, env, r.Intn(2)*8)
			at := r.Intn(len(*list) + 1)
			before := *list
			*list = slices.Insert(slices.Clone(before), at, c)
			err := module.MayCommand(m.Vars, c, env)
			if len(before) == api.MaxCmds {
				checkMay(t, m, api.ErrFull, i)
				break
			}
			checkMay(t, m, err, m)
			if err != api.OK {
				*list = before
				wrong++
			}
		}
	}
	if wrong < 300 {
		t.Error("too few", wrong)
	}
}

// R2
func TestArgumentsStay(t *testing.T) {
	spare := func(m api.Module) api.Module {
		m.Env = append(make([]api.Command, 0, 20), m.Env...)
		m.Sys[0].Sets = append(make([]api.Set, 0, 9), m.Sys[0].Sets...)
		m.Ensure = append(make([]api.Expr, 0, 9), m.Ensure...)
		return m
	}
	m := spare(made())
	module.May(m)
	module.Same(m, m)
	module.Goals(m)
	module.MayCommand(m.Vars, m.Sys[0], false)
	module.MayCommand(m.Vars, m.Sys[0], true)
	if !reflect.DeepEqual(m, spare(made())) {
		t.Error("changed")
	}
	if !reflect.DeepEqual(m.Env[:20][2:], make([]api.Command, 18)) || !reflect.DeepEqual(m.Sys[0].Sets[:9][2:], make([]api.Set, 7)) {
		t.Error("changed beyond the length")
	}
}
