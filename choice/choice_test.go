package choice_test

import (
	"math"
	"math/rand"
	"reflect"
	"slices"
	"testing"

	"parry/api"
	"parry/choice"
	"parry/dom"
	"parry/eval"
	"parry/module"
)

const (
	truth = api.SBool
	whole = api.SInt
)

func leaf(op, n int) api.Expr { return api.Expr{Op: op, N: n} }

func node(op int, kids ...api.Expr) api.Expr { return api.Expr{Op: op, Kids: kids} }

func num(n int) api.Expr { return leaf(api.ENum, n) }

func flag(n int) api.Expr { return leaf(api.EBool, n) }

func now(n int) api.Expr { return leaf(api.EVar, n) }

func next(n int) api.Expr { return leaf(api.ENext, n) }

func set(v int, e api.Expr) api.Set { return api.Set{Var: v, E: e} }

func free(v int) api.Set { return api.Set{Var: v, Any: true} }

func command(guard api.Expr, sets ...api.Set) api.Command {
	return api.Command{Guard: guard, Sets: sets}
}

// tooMuch has the sort SInt and no value; never has the sort SBool and no value.
func tooMuch() api.Expr { return node(api.EAdd, num(1000), num(1)) }

func never() api.Expr { return node(api.ELess, tooMuch(), num(0)) }

// ring holds itself.
func ring() api.Expr {
	kids := make([]api.Expr, 2)
	for i := range kids {
		kids[i] = api.Expr{Op: api.EAnd, Kids: kids}
	}
	return kids[0]
}

// vars: each sort on each side, the sides mixed. A state is a + 2 (b+1) + 8 c + 16 (d-3).
func vars() []api.Var {
	return []api.Var{
		{Name: "a", Env: true, Sort: truth},
		{Name: "b", Sort: whole, Low: -1, High: 2},
		{Name: "c", Sort: truth},
		{Name: "d", Env: true, Sort: whole, Low: 3, High: 5},
	}
}

const total = 48

// at is the state of vars with these values; a pick has b = -1 and c = 0.
func at(a, b, c, d int) int { return a + 2*(b+1) + 8*c + 16*(d-3) }

func pick(a, d int) int { return at(a, -1, 0, d) }

// plain is a valid module without commands.
func plain(l []api.Var) api.Module {
	return api.Module{Vars: l, InitEnv: flag(1), InitSys: flag(1)}
}

func check(t *testing.T, name string, got, want []int, where ...any) {
	t.Helper()
	if !slices.Equal(got, want) {
		t.Error(name, got, "not", want, "at", where)
	}
}

// wantEmpty asks every call at many states and picks, whether they are any or not.
func wantEmpty(t *testing.T, m api.Module, where ...any) {
	t.Helper()
	check(t, "InitEnv", choice.InitEnv(m), nil, where)
	for _, i := range []int{0, 1, 17, -1, total, math.MinInt, math.MaxInt} {
		wantNone(t, m, i, where)
	}
}

// wantNone asks every call that takes a number.
func wantNone(t *testing.T, m api.Module, i int, where ...any) {
	t.Helper()
	check(t, "InitSys", choice.InitSys(m, i), nil, where, i)
	check(t, "Env", choice.Env(m, i), nil, where, i)
	check(t, "Sys", choice.Sys(m, i, 0), nil, where, i)
	check(t, "Sys", choice.Sys(m, 0, i), nil, where, i)
}

// P6.1
func TestInitEnv(t *testing.T) {
	for i, x := range []struct {
		e    api.Expr
		want []int
	}{
		{flag(1), []int{pick(0, 3), pick(1, 3), pick(0, 4), pick(1, 4), pick(0, 5), pick(1, 5)}},
		{flag(0), nil},
		{now(0), []int{pick(1, 3), pick(1, 4), pick(1, 5)}},
		{node(api.ESame, now(3), num(4)), []int{pick(0, 4), pick(1, 4)}},
		{node(api.EThen, now(0), node(api.ELess, num(4), now(3))), []int{pick(0, 3), pick(0, 4), pick(0, 5), pick(1, 5)}},
		// No value is not True, and what is not needed is not asked for.
		{never(), nil},
		{node(api.ENot, never()), nil},
		{node(api.EOr, now(0), never()), []int{pick(1, 3), pick(1, 4), pick(1, 5)}},
		{node(api.EMost, node(api.EMul, num(250), now(3)), num(1000)), []int{pick(0, 3), pick(1, 3), pick(0, 4), pick(1, 4)}},
	} {
		m := plain(vars())
		m.InitEnv = x.e
		check(t, "InitEnv", choice.InitEnv(m), x.want, i)
		m.InitSys = flag(0)
		m.Env, m.Sys = []api.Command{command(flag(0))}, []api.Command{command(flag(0))}
		check(t, "InitEnv", choice.InitEnv(m), x.want, i, "with the rest changed")
	}
}

// P6.1
func TestInitSys(t *testing.T) {
	for i, x := range []struct {
		e    api.Expr
		a, d int
		want []int
	}{
		{flag(1), 1, 4, []int{at(1, -1, 0, 4), at(1, 0, 0, 4), at(1, 1, 0, 4), at(1, 2, 0, 4), at(1, -1, 1, 4), at(1, 0, 1, 4), at(1, 1, 1, 4), at(1, 2, 1, 4)}},
		{flag(0), 1, 4, nil},
		{never(), 1, 4, nil},
		{now(0), 0, 5, nil},
		{node(api.EAnd, now(2), node(api.ELess, num(0), now(1))), 0, 5, []int{at(0, 1, 1, 5), at(0, 2, 1, 5)}},
		{node(api.ESame, node(api.ESub, now(3), num(3)), now(1)), 0, 3, []int{at(0, 0, 0, 3), at(0, 0, 1, 3)}},
		{node(api.ESame, node(api.ESub, now(3), num(3)), now(1)), 0, 5, []int{at(0, 2, 0, 5), at(0, 2, 1, 5)}},
		{node(api.EMost, node(api.EMul, now(1), num(600)), num(600)), 1, 3, []int{at(1, -1, 0, 3), at(1, 0, 0, 3), at(1, 1, 0, 3), at(1, -1, 1, 3), at(1, 0, 1, 3), at(1, 1, 1, 3)}},
	} {
		m := plain(vars())
		m.InitSys = x.e
		check(t, "InitSys", choice.InitSys(m, pick(x.a, x.d)), x.want, i)
		// Whether the environment can begin with the pick does not matter here.
		m.InitEnv = flag(0)
		check(t, "InitSys", choice.InitSys(m, pick(x.a, x.d)), x.want, i, "with the rest changed")
	}
}

// P6.1 and P6.2: a number that is no pick, or no state.
func TestNoPickNoState(t *testing.T) {
	m := plain(vars())
	m.Env, m.Sys = []api.Command{command(flag(1))}, []api.Command{command(flag(1))}
	picks := choice.InitEnv(m)
	for i := -60; i < 120; i++ {
		isPick := slices.Contains(picks, i)
		if got := len(choice.InitSys(m, i)) > 0; got != isPick {
			t.Error("InitSys", i, got)
		}
		if got := len(choice.Sys(m, 1, i)) > 0; got != isPick {
			t.Error("Sys with a pick", i, got)
		}
		isState := i >= 0 && i < total
		if got := len(choice.Env(m, i)) > 0; got != isState {
			t.Error("Env", i, got)
		}
		if got := len(choice.Sys(m, i, 1)) > 0; got != isState {
			t.Error("Sys with a state", i, got)
		}
	}
	for _, i := range []int{math.MinInt, math.MaxInt, math.MinInt + 1, 1 << 32, -1 << 32} {
		wantNone(t, m, i)
	}
}

// P6.2
func TestEnv(t *testing.T) {
	later := node(api.EAdd, now(3), num(1))
	for i, x := range []struct {
		list []api.Command
		from int
		want []int
	}{
		{nil, at(1, 2, 1, 4), nil},
		{[]api.Command{command(flag(1))}, at(1, 2, 1, 4), []int{pick(1, 4)}},
		{[]api.Command{command(flag(0))}, at(1, 2, 1, 4), nil},
		{[]api.Command{command(never())}, at(1, 2, 1, 4), nil},
		{[]api.Command{command(node(api.ENot, never()), free(0))}, at(1, 2, 1, 4), nil},
		// The guard reads both sides.
		{[]api.Command{command(now(2))}, at(1, 2, 1, 4), []int{pick(1, 4)}},
		{[]api.Command{command(now(2))}, at(1, 2, 0, 4), nil},
		{[]api.Command{command(node(api.ESame, now(1), num(2)))}, at(0, 2, 0, 5), []int{pick(0, 5)}},
		// Any, one by one and both.
		{[]api.Command{command(flag(1), free(0))}, at(1, 2, 1, 4), []int{pick(0, 4), pick(1, 4)}},
		{[]api.Command{command(flag(1), free(3))}, at(1, 2, 1, 4), []int{pick(1, 3), pick(1, 4), pick(1, 5)}},
		{[]api.Command{command(flag(1), free(0), free(3))}, at(1, 2, 1, 5), []int{pick(0, 3), pick(1, 3), pick(0, 4), pick(1, 4), pick(0, 5), pick(1, 5)}},
		{[]api.Command{command(flag(1), free(3), free(0))}, at(1, 2, 1, 5), []int{pick(0, 3), pick(1, 3), pick(0, 4), pick(1, 4), pick(0, 5), pick(1, 5)}},
		// A value, at the edges of its variable too.
		{[]api.Command{command(flag(1), set(3, later))}, at(1, 2, 1, 4), []int{pick(1, 5)}},
		{[]api.Command{command(flag(1), set(3, later))}, at(1, 2, 1, 5), nil},
		{[]api.Command{command(flag(1), set(3, num(3)))}, at(0, 0, 0, 5), []int{pick(0, 3)}},
		{[]api.Command{command(flag(1), set(3, num(2)))}, at(0, 0, 0, 5), nil},
		{[]api.Command{command(flag(1), set(3, num(5)))}, at(0, 0, 0, 3), []int{pick(0, 5)}},
		{[]api.Command{command(flag(1), set(3, num(6)))}, at(0, 0, 0, 3), nil},
		{[]api.Command{command(flag(1), set(0, now(2)))}, at(0, 0, 1, 3), []int{pick(1, 3)}},
		{[]api.Command{command(flag(1), set(3, node(api.EAdd, now(1), now(3))))}, at(0, -1, 1, 4), []int{pick(0, 3)}},
		// Nowhere, whichever of the Sets it is; 0 is a value of variable 0.
		{[]api.Command{command(flag(1), free(0), set(3, later))}, at(1, 2, 1, 5), nil},
		{[]api.Command{command(flag(1), set(3, later), free(0))}, at(1, 2, 1, 5), nil},
		{[]api.Command{command(flag(1), set(3, tooMuch()))}, at(1, 2, 1, 5), nil},
		{[]api.Command{command(flag(1), set(0, never()), free(3))}, at(1, 2, 1, 5), nil},
		{[]api.Command{command(flag(1), free(3), set(0, never()))}, at(1, 2, 1, 5), nil},
		// The others lead on, and each pick is there once.
		{[]api.Command{command(flag(1), set(3, tooMuch())), command(flag(1), free(0)), command(flag(0), free(3))}, at(1, 2, 1, 5), []int{pick(0, 5), pick(1, 5)}},
		{[]api.Command{command(flag(1), set(3, num(5))), command(flag(1), set(3, num(3))), command(flag(1), free(0)), command(flag(1))}, at(1, 2, 1, 4), []int{pick(1, 3), pick(0, 4), pick(1, 4), pick(1, 5)}},
	} {
		m := plain(vars())
		m.Env = x.list
		check(t, "Env", choice.Env(m, x.from), x.want, i)
		m.InitEnv, m.InitSys = flag(0), flag(0)
		m.Sys = []api.Command{command(flag(0))}
		slices.Reverse(m.Env)
		check(t, "Env", choice.Env(m, x.from), x.want, i, "with the rest changed")
	}
}

// P6.2
func TestSys(t *testing.T) {
	from := at(1, 2, 1, 4)
	for i, x := range []struct {
		list []api.Command
		pick int
		want []int
	}{
		{nil, pick(0, 3), nil},
		{[]api.Command{command(flag(1))}, pick(0, 3), []int{at(0, 2, 1, 3)}},
		{[]api.Command{command(flag(1))}, pick(1, 5), []int{at(1, 2, 1, 5)}},
		{[]api.Command{command(flag(0))}, pick(1, 5), nil},
		{[]api.Command{command(never())}, pick(1, 5), nil},
		// Now is the state, next the pick.
		{[]api.Command{command(now(0))}, pick(0, 3), []int{at(0, 2, 1, 3)}},
		{[]api.Command{command(next(0))}, pick(0, 3), nil},
		{[]api.Command{command(next(0))}, pick(1, 3), []int{at(1, 2, 1, 3)}},
		{[]api.Command{command(node(api.ENot, next(0)), set(2, next(0)))}, pick(0, 3), []int{at(0, 2, 0, 3)}},
		{[]api.Command{command(flag(1), set(2, now(0)))}, pick(0, 3), []int{at(0, 2, 1, 3)}},
		{[]api.Command{command(flag(1), set(1, node(api.ESub, next(3), now(3))))}, pick(0, 3), []int{at(0, -1, 1, 3)}},
		{[]api.Command{command(flag(1), set(1, node(api.ESub, next(3), now(3))))}, pick(0, 5), []int{at(0, 1, 1, 5)}},
		// Any, one by one and both.
		{[]api.Command{command(flag(1), free(2))}, pick(0, 3), []int{at(0, 2, 0, 3), at(0, 2, 1, 3)}},
		{[]api.Command{command(flag(1), free(1))}, pick(0, 5), []int{at(0, -1, 1, 5), at(0, 0, 1, 5), at(0, 1, 1, 5), at(0, 2, 1, 5)}},
		{[]api.Command{command(next(0), free(2), free(1))}, pick(1, 5), []int{at(1, -1, 0, 5), at(1, 0, 0, 5), at(1, 1, 0, 5), at(1, 2, 0, 5), at(1, -1, 1, 5), at(1, 0, 1, 5), at(1, 1, 1, 5), at(1, 2, 1, 5)}},
		// A value, at the edges of its variable too; none.
		{[]api.Command{command(flag(1), set(1, num(-1)))}, pick(0, 3), []int{at(0, -1, 1, 3)}},
		{[]api.Command{command(flag(1), set(1, num(-2)))}, pick(0, 3), nil},
		{[]api.Command{command(flag(1), set(1, num(2)), free(2))}, pick(0, 3), []int{at(0, 2, 0, 3), at(0, 2, 1, 3)}},
		{[]api.Command{command(flag(1), set(1, num(3)), free(2))}, pick(0, 3), nil},
		{[]api.Command{command(flag(1), free(2), set(1, num(1000)))}, pick(0, 3), nil},
		{[]api.Command{command(flag(1), free(2), set(1, tooMuch()))}, pick(0, 3), nil},
		{[]api.Command{command(flag(1), set(2, never()), free(1))}, pick(0, 3), nil},
		{[]api.Command{command(flag(1), set(1, num(0))), command(flag(1), set(1, num(-1))), command(flag(1), set(1, num(3))), command(now(0), set(1, num(0)))}, pick(0, 3), []int{at(0, -1, 1, 3), at(0, 0, 1, 3)}},
	} {
		m := plain(vars())
		m.Sys = x.list
		check(t, "Sys", choice.Sys(m, from, x.pick), x.want, i)
		// Whether the environment can choose the pick does not matter here.
		m.InitEnv, m.InitSys = flag(0), flag(0)
		m.Env = []api.Command{command(flag(0))}
		slices.Reverse(m.Sys)
		check(t, "Sys", choice.Sys(m, from, x.pick), x.want, i, "with the rest changed")
	}
}

// P6.2: all Sets of a command read the state that was, in whatever order they stand.
func TestAtOnce(t *testing.T) {
	l := []api.Var{
		{Name: "a", Env: true, Sort: whole, Low: 0, High: 2},
		{Name: "b", Env: true, Sort: whole, Low: 0, High: 2},
		{Name: "c", Sort: whole, Low: 0, High: 2},
		{Name: "d", Sort: whole, Low: 0, High: 2},
	}
	m := plain(l)
	m.Env = []api.Command{command(flag(1), set(1, now(0)), set(0, now(1)))}
	m.Sys = []api.Command{command(flag(1), set(2, now(3)), set(3, now(2)))}
	for state := range dom.Total(l) {
		values, _ := dom.Values(l, state)
		a, b, c, d := values[0], values[1], values[2], values[3]
		check(t, "Env", choice.Env(m, state), []int{b + 3*a}, state)
		check(t, "Sys", choice.Sys(m, state, 5), []int{5 + 9*d + 27*c}, state)
	}
}

// A module that is not valid, whatever the reason and wherever it lies: nothing, from any call.
func TestNotValid(t *testing.T) {
	full := func() api.Module {
		m := plain(vars())
		m.Env = []api.Command{command(flag(1), free(0)), command(flag(1))}
		m.Sys = []api.Command{command(flag(1), free(1)), command(flag(1))}
		return m
	}
	m := full()
	if len(choice.InitEnv(m)) == 0 || len(choice.InitSys(m, 17)) == 0 || len(choice.Env(m, 17)) == 0 || len(choice.Sys(m, 17, 17)) == 0 {
		t.Error("valid, but nothing")
	}
	for i, change := range []func(m *api.Module){
		func(m *api.Module) { m.Vars[3].Name = "a" },
		func(m *api.Module) { m.Vars[3].Name = "if" },
		func(m *api.Module) { m.Vars[3].High = 2 },
		func(m *api.Module) { m.Vars[3].High = 1000 },
		func(m *api.Module) { m.Vars[2].High = 1 },
		func(m *api.Module) { m.Vars[2].Sort = 0 },
		func(m *api.Module) { m.Vars = nil },
		func(m *api.Module) { m.Vars = make([]api.Var, 1<<20) },
		func(m *api.Module) { m.InitEnv = now(2) },
		func(m *api.Module) { m.InitEnv = num(1) },
		func(m *api.Module) { m.InitEnv = ring() },
		func(m *api.Module) { m.InitSys = next(0) },
		func(m *api.Module) { m.InitSys = api.Expr{} },
		func(m *api.Module) { m.InitSys = ring() },
		func(m *api.Module) { m.Env = make([]api.Command, 1<<20) },
		func(m *api.Module) { m.Env[1].Guard = next(0) },
		func(m *api.Module) { m.Env[1].Guard = ring() },
		func(m *api.Module) { m.Env[1].Sets = []api.Set{free(2)} },
		func(m *api.Module) { m.Env[1].Sets = []api.Set{free(4)} },
		func(m *api.Module) { m.Env[1].Sets = []api.Set{free(-1)} },
		func(m *api.Module) { m.Env[1].Sets = []api.Set{free(0), free(0)} },
		func(m *api.Module) { m.Env[1].Sets = make([]api.Set, 1<<20) },
		func(m *api.Module) { m.Env[0].Sets[0].E = flag(0) },
		func(m *api.Module) { m.Sys = slices.Repeat(m.Sys[1:], 13) },
		func(m *api.Module) { m.Sys[1].Guard = next(2) },
		func(m *api.Module) { m.Sys[1].Sets = []api.Set{free(0)} },
		func(m *api.Module) { m.Sys[1].Sets = []api.Set{set(1, flag(1))} },
		func(m *api.Module) { m.Sys[1].Sets = []api.Set{set(2, ring())} },
		func(m *api.Module) { m.Assume = []api.Expr{next(0)} },
		func(m *api.Module) { m.Ensure = []api.Expr{flag(1), flag(1), flag(1), flag(1), flag(1)} },
		func(m *api.Module) { m.Prio = []api.Expr{flag(1)}; m.Ensure = m.Prio },
		func(m *api.Module) { m.Prio = []api.Expr{num(1)} },
	} {
		m := full()
		change(&m)
		wantEmpty(t, m, i)
	}
	wantEmpty(t, api.Module{}, "zero")
}

// P6.1 and P6.2, at the edges: one side or both have no variables; variables with one value; the greatest numbers.
func TestEdges(t *testing.T) {
	both := []api.Command{command(flag(1))}
	m := plain(nil)
	m.Env, m.Sys = both, both
	check(t, "InitEnv", choice.InitEnv(m), []int{0}, "no variables")
	check(t, "InitSys", choice.InitSys(m, 0), []int{0}, "no variables")
	check(t, "Env", choice.Env(m, 0), []int{0}, "no variables")
	check(t, "Sys", choice.Sys(m, 0, 0), []int{0}, "no variables")
	check(t, "Env", choice.Env(m, 1), nil, "no variables")
	check(t, "Sys", choice.Sys(m, 0, 1), nil, "no variables")

	one := func(env bool, low, high int) api.Module {
		m := plain([]api.Var{{Name: "x", Env: env, Sort: whole, Low: low, High: high}})
		m.Env, m.Sys = both, both
		return m
	}
	m = one(true, 998, 1000)
	m.Env = []api.Command{command(flag(1), set(0, node(api.EAdd, now(0), num(1))))}
	check(t, "InitEnv", choice.InitEnv(m), []int{0, 1, 2}, "the environment alone")
	check(t, "InitSys", choice.InitSys(m, 2), []int{2}, "the environment alone")
	check(t, "Env", choice.Env(m, 1), []int{2}, "the environment alone")
	check(t, "Env", choice.Env(m, 2), nil, "the environment alone")
	check(t, "Sys", choice.Sys(m, 1, 2), []int{2}, "the environment alone")

	m = one(false, -1000, -998)
	m.Sys = []api.Command{command(flag(1), set(0, node(api.ESub, now(0), num(1))))}
	check(t, "InitEnv", choice.InitEnv(m), []int{0}, "the system alone")
	check(t, "InitSys", choice.InitSys(m, 0), []int{0, 1, 2}, "the system alone")
	check(t, "InitSys", choice.InitSys(m, 1), nil, "the system alone")
	check(t, "Env", choice.Env(m, 2), []int{0}, "the system alone")
	check(t, "Sys", choice.Sys(m, 2, 0), []int{1}, "the system alone")
	check(t, "Sys", choice.Sys(m, 0, 0), nil, "the system alone")

	m = one(true, 7, 7)
	m.Env = []api.Command{command(flag(1), free(0))}
	check(t, "Env", choice.Env(m, 0), []int{0}, "one value")
	m.Env = []api.Command{command(flag(1), set(0, num(8)))}
	check(t, "Env", choice.Env(m, 0), nil, "one value")
}

func upTo(n int) []int {
	var list []int
	for i := range n {
		list = append(list, i)
	}
	return list
}

// P6.1 and P6.2, at the limits: 512 states, 6 variables, 12 commands.
func TestLimits(t *testing.T) {
	for _, env := range []bool{true, false} {
		one := []api.Var{{Name: "x", Env: env, Sort: whole, Low: -1, High: 510}}
		var six []api.Var
		for i, high := range []int{1, 3, 3, 3, 1, 1} {
			six = append(six, api.Var{Name: string(rune('a' + i)), Env: env, Sort: whole, High: high})
		}
		for _, l := range [][]api.Var{one, six} {
			c := command(flag(1))
			for i := range l {
				c.Sets = append(c.Sets, free(len(l)-1-i))
			}
			m := plain(l)
			list := slices.Repeat([]api.Command{c}, api.MaxCmds)
			if env {
				m.Env = list
				check(t, "InitEnv", choice.InitEnv(m), upTo(512))
				check(t, "InitSys", choice.InitSys(m, 511), []int{511})
				check(t, "Env", choice.Env(m, 511), upTo(512))
				check(t, "Env", choice.Env(m, 512), nil)
				continue
			}
			m.Sys = list
			check(t, "InitEnv", choice.InitEnv(m), []int{0})
			check(t, "InitSys", choice.InitSys(m, 0), upTo(512))
			check(t, "Sys", choice.Sys(m, 511, 0), upTo(512))
			check(t, "Sys", choice.Sys(m, 512, 0), nil)
		}
	}
}

// grow makes an expression of this sort that may read what it is told.
func grow(r *rand.Rand, l []api.Var, needs, deep int, old, env bool) api.Expr {
	kid := func(needs int) api.Expr { return grow(r, l, needs, deep-1, old, env) }
	if deep <= 1 || r.Intn(3) == 0 {
		v := r.Intn(len(l) + 1)
		switch {
		case v < len(l) && l[v].Sort == needs && r.Intn(2) == 0 && l[v].Env && env:
			return next(v)
		case v < len(l) && l[v].Sort == needs && (l[v].Env || old):
			return now(v)
		case needs == whole && r.Intn(20) == 0:
			return num(999)
		case needs == whole:
			return num(r.Intn(6))
		}
		return flag(r.Intn(2))
	}
	if r.Intn(5) == 0 {
		return node(api.EIf, kid(truth), kid(needs), kid(needs))
	}
	if needs == whole {
		return node(api.EAdd+r.Intn(3), kid(whole), kid(whole))
	}
	switch op := api.ENot + r.Intn(7); op {
	case api.ENot:
		return node(op, kid(truth))
	case api.ESame, api.ELess, api.EMost:
		return node(op, kid(whole), kid(whole))
	default:
		return node(op, kid(truth), kid(truth))
	}
}

func growCommand(r *rand.Rand, l []api.Var, env bool) api.Command {
	c := command(grow(r, l, truth, 3, true, !env))
	for _, v := range r.Perm(len(l)) {
		if l[v].Env != env || r.Intn(3) == 0 {
			continue
		}
		s := set(v, grow(r, l, l[v].Sort, 3, true, !env))
		if r.Intn(3) == 0 {
			s = free(v)
		}
		c.Sets = append(c.Sets, s)
	}
	return c
}

func growVars(r *rand.Rand) []api.Var {
	var l []api.Var
	for i := range r.Intn(5) {
		v := api.Var{Name: string(rune('a' + i)), Env: r.Intn(2) == 0, Sort: truth}
		if r.Intn(2) == 0 {
			v.Sort, v.Low = whole, r.Intn(5)-2
			v.High = v.Low + r.Intn(4)
		}
		l = append(l, v)
	}
	return l
}

func growModule(t *testing.T, r *rand.Rand) api.Module {
	l := growVars(r)
	m := api.Module{
		Vars:    l,
		InitEnv: grow(r, l, truth, 4, false, false),
		InitSys: grow(r, l, truth, 4, true, false),
	}
	for range r.Intn(4) {
		m.Env = append(m.Env, growCommand(r, l, true))
		m.Sys = append(m.Sys, growCommand(r, l, false))
	}
	if module.May(m) != api.OK {
		t.Fatal("not valid", m)
	}
	return m
}

// leads asks of a single state whether the command leads there: each variable has to have the value that it gets.
func leads(l []api.Var, c api.Command, env bool, now, next, to int) bool {
	if !eval.True(l, c.Guard, now, next) {
		return false
	}
	had, _ := dom.Values(l, now)
	has, _ := dom.Values(l, to)
	for v, x := range l {
		if x.Env != env {
			continue
		}
		i := slices.IndexFunc(c.Sets, func(s api.Set) bool { return s.Var == v })
		value, err := had[v], api.OK
		if i >= 0 && c.Sets[i].Any {
			value = has[v]
		} else if i >= 0 {
			value, err = eval.Value(l, c.Sets[i].E, now, next)
		}
		if err != api.OK || value != has[v] {
			return false
		}
	}
	return true
}

func isPick(l []api.Var, pick int) bool {
	values, ok := dom.Values(l, pick)
	for i, v := range l {
		ok = ok && (v.Env || values[i] == v.Low)
	}
	return ok
}

// those goes through all states in order.
func those(l []api.Var, is func(state int) bool) []int {
	var list []int
	for state := range dom.Total(l) {
		if is(state) {
			list = append(list, state)
		}
	}
	return list
}

func wantEnv(m api.Module, state int) []int {
	return those(m.Vars, func(to int) bool {
		return isPick(m.Vars, to) && slices.ContainsFunc(m.Env, func(c api.Command) bool {
			return leads(m.Vars, c, true, state, state, to)
		})
	})
}

func wantSys(m api.Module, state, pick int) []int {
	return those(m.Vars, func(to int) bool {
		return dom.Part(m.Vars, to, true) == pick && slices.ContainsFunc(m.Sys, func(c api.Command) bool {
			return leads(m.Vars, c, false, state, pick, to)
		})
	})
}

// checkOrder is P6.3's first half.
func checkOrder(t *testing.T, list []int, where ...any) {
	t.Helper()
	for i := range list {
		if i > 0 && list[i-1] >= list[i] {
			t.Error("not ascending", list, where)
		}
	}
}

// P6.1, P6.2 and P6.3: many modules, against what is said of each single state.
func TestSample(t *testing.T) {
	r := rand.New(rand.NewSource(6))
	met := make([]int, 3)
	for i := range 1500 {
		m := growModule(t, r)
		l := m.Vars
		got := choice.InitEnv(m)
		check(t, "InitEnv", got, those(l, func(state int) bool { return isPick(l, state) && eval.True(l, m.InitEnv, state, state) }), i)
		checkOrder(t, got, "InitEnv")
		for pick := range dom.Total(l) {
			got := choice.InitSys(m, pick)
			check(t, "InitSys", got, those(l, func(state int) bool {
				return dom.Part(l, state, true) == pick && eval.True(l, m.InitSys, state, state)
			}), i, pick)
			checkOrder(t, got, "InitSys")
		}
		for range 4 {
			state, pick := r.Intn(dom.Total(l)), r.Intn(dom.Total(l))
			if r.Intn(8) > 0 {
				pick = dom.Part(l, pick, true)
			}
			got := choice.Env(m, state)
			check(t, "Env", got, wantEnv(m, state), i, state)
			checkOrder(t, got, "Env")
			got = choice.Sys(m, state, pick)
			want := wantSys(m, state, pick)
			check(t, "Sys", got, want, i, state, pick)
			checkOrder(t, got, "Sys")
			met[min(len(want), 2)]++
		}
	}
	if slices.Min(met) < 300 {
		t.Error("too few", met)
	}
}

// P6.3: with one more command, what can be chosen is what could be, and what this command alone leads to.
func TestOneMoreCommand(t *testing.T) {
	r := rand.New(rand.NewSource(63))
	grown := 0
	for i := range 1500 {
		m := growModule(t, r)
		l := m.Vars
		state := r.Intn(dom.Total(l))
		pick := dom.Part(l, r.Intn(dom.Total(l)), true)
		call, list := func(m api.Module) []int { return choice.Sys(m, state, pick) }, &m.Sys
		env := i%2 == 0
		if env {
			call, list = func(m api.Module) []int { return choice.Env(m, state) }, &m.Env
		}
		before, had := *list, call(m)
		c := growCommand(r, l, env)
		*list = []api.Command{c}
		want := slices.Concat(had, call(m))
		slices.Sort(want)
		want = slices.Compact(want)
		for at := range len(before) + 1 {
			*list = slices.Insert(slices.Clone(before), at, c)
			check(t, "one more", call(m), want, i, at)
		}
		if len(want) > len(had) && len(had) > 0 {
			grown++
		}
	}
	if grown < 50 {
		t.Error("too few", grown)
	}
}

// R2 and R6
func TestMemory(t *testing.T) {
	made := func() api.Module {
		m := plain(vars()[:4:4])
		m.Env = append(make([]api.Command, 0, 9), command(flag(1), free(0), set(3, num(4))), command(now(0)))
		m.Sys = append(make([]api.Command, 0, 9), command(flag(1), free(2), set(1, next(3))), command(next(0), free(1)))
		m.Env[0].Sets = append(make([]api.Set, 0, 9), m.Env[0].Sets...)
		m.Vars = append(make([]api.Var, 0, 9), m.Vars...)
		return m
	}
	m := made()
	calls := []func() []int{
		func() []int { return choice.InitEnv(m) },
		func() []int { return choice.InitSys(m, 17) },
		func() []int { return choice.Env(m, 17) },
		func() []int { return choice.Sys(m, 17, 17) },
	}
	for i, call := range calls {
		first := call()
		kept := slices.Clone(first)
		if len(first) < 2 {
			t.Error("too few", i)
		}
		for j := range first {
			first[j] = -7
		}
		check(t, "again", call(), kept, i)
	}
	if !reflect.DeepEqual(m, made()) {
		t.Error("changed")
	}
	if !reflect.DeepEqual(m.Vars[:9][4:], make([]api.Var, 5)) || !reflect.DeepEqual(m.Env[:9][2:], make([]api.Command, 7)) ||
		!reflect.DeepEqual(m.Sys[:9][2:], make([]api.Command, 7)) || !reflect.DeepEqual(m.Env[0].Sets[:9][2:], make([]api.Set, 7)) {
		t.Error("changed beyond the length")
	}
	// What is beyond the length is not read either.
	_ = append(m.Env, command(flag(1), free(3)))
	_ = append(m.Env[0].Sets, free(3))
	check(t, "Env", choice.Env(m, 17), []int{pick(0, 4), pick(1, 4)}, "spare")
}
