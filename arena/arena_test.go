package arena_test

import (
	"fmt"
	"math"
	"math/rand"
	"reflect"
	"slices"
	"testing"

	"parry/api"
	"parry/arena"
	"parry/choice"
	"parry/eval"
	"parry/graph"
	"parry/module"
)

const (
	truth = api.SBool
	whole = api.SInt
)

func leaf(op, n int) api.Expr { return api.Expr{Op: op, N: n} }

func node(op int, kids ...api.Expr) api.Expr { return api.Expr{Op: op, Kids: kids} }

func num(n int) api.Expr { return leaf(api.ENum, n) }

func flag(n int) api.Expr { return leaf(api.EBool, n) }

func now(n int) api.Expr { return leaf(api.EVar, n) }

func next(n int) api.Expr { return leaf(api.ENext, n) }

func not(e api.Expr) api.Expr { return node(api.ENot, e) }

func and(a, b api.Expr) api.Expr { return node(api.EAnd, a, b) }

func same(a, b api.Expr) api.Expr { return node(api.ESame, a, b) }

func less(a, b api.Expr) api.Expr { return node(api.ELess, a, b) }

func set(v int, e api.Expr) api.Set { return api.Set{Var: v, E: e} }

func free(v int) api.Set { return api.Set{Var: v, Any: true} }

func command(guard api.Expr, sets ...api.Set) api.Command {
	return api.Command{Guard: guard, Sets: sets}
}

// never has the sort SBool and no value.
func never() api.Expr { return less(node(api.EAdd, num(1000), num(1)), num(0)) }

// ring holds itself.
func ring() api.Expr {
	kids := make([]api.Expr, 2)
	for i := range kids {
		kids[i] = api.Expr{Op: api.EAnd, Kids: kids}
	}
	return kids[0]
}

// lamp: the environment presses a button (x) or not, and the system answers by a lamp (y). A state is x + 2y.
func lamp() api.Module {
	return api.Module{
		Vars:    []api.Var{{Name: "x", Env: true, Sort: truth}, {Name: "y", Sort: truth}},
		InitEnv: not(now(0)),
		InitSys: not(now(1)),
		Env:     []api.Command{command(flag(1), free(0))},
		Sys:     []api.Command{command(flag(1), set(1, next(0)))},
	}
}

// text is an arena, a line for each vertex.
func text(a api.Arena) string {
	s := ""
	for v, x := range a.At {
		s += fmt.Sprint(x, a.Game.Owner[v], a.Game.Next[v], "\n")
	}
	return s
}

// build is Build of a module that has to have an arena.
func build(t *testing.T, m api.Module, where ...any) api.Arena {
	t.Helper()
	a, err := arena.Build(m)
	if err != api.OK {
		t.Fatal("Build", err, where)
	}
	return a
}

// P10.1: by hand.
func TestBuild(t *testing.T) {
	noEnv, noSys, stuckEnv, stuckSys := lamp(), lamp(), lamp(), lamp()
	noEnv.InitEnv = flag(0)
	noSys.InitSys = never()
	stuckEnv.Env = nil
	stuckSys.Sys[0].Guard = same(next(0), now(0))

	// Two picks are there from the start; the second leads on to a state of its own.
	two := lamp()
	two.InitEnv = flag(1)
	two.InitSys = same(now(0), now(1))
	two.Env = []api.Command{command(flag(1))}

	for i, x := range []struct {
		m    api.Module
		want string
	}{
		{noEnv, "{1 0 0} 0 []\n"},
		{noSys, "{1 0 0} 0 [1]\n{2 0 0} 1 []\n"},
		{stuckEnv, "{1 0 0} 0 [1]\n{2 0 0} 1 [2]\n{3 0 0} 0 []\n"},
		{stuckSys, "{1 0 0} 0 [1]\n{2 0 0} 1 [2]\n{3 0 0} 0 [3 4]\n{4 0 0} 1 [2]\n{4 0 1} 1 []\n"},
		{lamp(), "{1 0 0} 0 [1]\n{2 0 0} 1 [2]\n{3 0 0} 0 [3 4]\n{4 0 0} 1 [2]\n{4 0 1} 1 [5]\n{3 3 0} 0 [6 7]\n{4 3 0} 1 [2]\n{4 3 1} 1 [5]\n"},
		{two, "{1 0 0} 0 [1 2]\n{2 0 0} 1 [3]\n{2 0 1} 1 [4]\n{3 0 0} 0 [5]\n{3 3 0} 0 [6]\n{4 0 0} 1 [3]\n{4 3 1} 1 [4]\n"},
	} {
		if got := text(build(t, x.m, i)); got != x.want {
			t.Error(i, got)
		}
	}
}

// P10.1: a successor that is considered later may have been found earlier: Next ascends all the same.
func TestBuildOrder(t *testing.T) {
	m := api.Module{
		Vars:    []api.Var{{Name: "y", Sort: whole, High: 3}},
		InitEnv: flag(1),
		InitSys: same(now(0), num(3)),
		Env:     []api.Command{command(flag(1))},
		Sys:     []api.Command{command(less(num(0), now(0)), free(0))},
	}
	want := "{1 0 0} 0 [1]\n{2 0 0} 1 [2]\n{3 3 0} 0 [3]\n{4 3 0} 1 [2 4 5 6]\n{3 0 0} 0 [7]\n{3 1 0} 0 [8]\n{3 2 0} 0 [9]\n{4 0 0} 1 []\n{4 1 0} 1 [2 4 5 6]\n{4 2 0} 1 [2 4 5 6]\n"
	if got := text(build(t, m)); got != want {
		t.Error(got)
	}
}

// P10.1: without variables there is one state; with those of one side alone, one pick or one answer.
func TestBuildFewVars(t *testing.T) {
	m := api.Module{InitEnv: flag(1), InitSys: flag(1), Env: []api.Command{command(flag(1))}, Sys: []api.Command{command(flag(1))}}
	none := "{1 0 0} 0 [1]\n{2 0 0} 1 [2]\n{3 0 0} 0 [3]\n{4 0 0} 1 [2]\n"
	if got := text(build(t, m)); got != none {
		t.Error("no variables", got)
	}
	m.Vars = []api.Var{{Name: "x", Env: true, Sort: whole, Low: 7, High: 8}}
	m.InitEnv = less(num(7), now(0))
	if got, want := text(build(t, m)), "{1 0 0} 0 [1]\n{2 0 1} 1 [2]\n{3 1 0} 0 [3]\n{4 1 1} 1 [2]\n"; got != want {
		t.Error("the environment's alone", got)
	}
	m.Vars[0].Env = false
	m.InitEnv, m.InitSys = flag(1), m.InitEnv
	if got, want := text(build(t, m)), "{1 0 0} 0 [1]\n{2 0 0} 1 [2]\n{3 1 0} 0 [3]\n{4 1 0} 1 [2]\n"; got != want {
		t.Error("the system's alone", got)
	}
}

// wide has 8 picks and 8 (high + 1) states: from all but few of them, 8 edges lead on.
func wide(high, few int) api.Module {
	x, y := now(0), now(1)
	return api.Module{
		Vars:    []api.Var{{Name: "x", Env: true, Sort: whole, High: 7}, {Name: "y", Sort: whole, High: high}},
		InitEnv: flag(1),
		InitSys: flag(1),
		Env:     []api.Command{command(not(and(same(y, num(0)), less(x, num(few)))), free(0))},
	}
}

// P10.1: as many vertices as there may be, and more.
func TestBuildFull(t *testing.T) {
	// One state less is to begin with, and without commands of the system it is not reached.
	most := wide(41, 3)
	most.InitSys = not(and(same(now(0), num(7)), same(now(1), num(41))))
	for i, x := range []struct {
		m     api.Module
		total int
	}{
		{most, api.MaxVerts},
		{wide(41, 5), api.MaxVerts - 7},
		{wide(41, 6), api.MaxVerts - 15},
		{wide(40, 0), 2961},
	} {
		a := build(t, x.m, i)
		if len(a.At) != x.total || len(a.Game.Owner) != x.total || len(a.Game.Next) != x.total {
			t.Error(i, len(a.At), len(a.Game.Owner), len(a.Game.Next))
		}
		if got := graph.May(a.Game); got != api.OK {
			t.Error(i, got)
		}
	}
	greatest := wide(41, 0)
	greatest.Vars = []api.Var{{Name: "x", Env: true, Sort: whole, High: 255}, {Name: "y", Sort: truth}}
	greatest.Env[0].Guard = flag(1)
	// The last vertex is one too many.
	for i, m := range []api.Module{wide(41, 4), wide(41, 3), wide(41, 0), wide(63, 0), greatest} {
		if a, err := arena.Build(m); err != api.ErrFull || !reflect.DeepEqual(a, api.Arena{}) {
			t.Error(i, err, len(a.At))
		}
	}
}

// P10.1: an arena counts the vertices that are reached, and no others.
func TestBuildFewReached(t *testing.T) {
	m := wide(63, 0)
	m.InitEnv = same(now(0), num(5))
	m.InitSys = same(now(1), num(9))
	m.Env = []api.Command{command(flag(1))}
	m.Sys = []api.Command{command(flag(1))}
	if got := len(build(t, m).At); got != 4 {
		t.Error(got)
	}
}

// wrong is a way to spoil a module with an environment variable 0 and a system variable 1, and its error.
type wrong struct {
	name   string
	err    api.Errno
	change func(m *api.Module)
}

func spoiled() []wrong {
	return []wrong{
		{"name", api.ErrName, func(m *api.Module) { m.Vars[1].Name = "x" }},
		{"sort of a variable", api.ErrSort, func(m *api.Module) { m.Vars[1].Sort = 3 }},
		{"range", api.ErrOver, func(m *api.Module) { m.Vars[1].High = 1001 }},
		{"states", api.ErrFull, func(m *api.Module) { m.Vars[1] = api.Var{Name: "y", Sort: whole, High: 1000} }},
		{"begins with the system", api.ErrName, func(m *api.Module) { m.InitEnv = same(now(1), now(1)) }},
		{"no condition", api.ErrArg, func(m *api.Module) { m.InitSys = api.Expr{} }},
		{"number", api.ErrSort, func(m *api.Module) { m.InitSys = num(1) }},
		{"ring", api.ErrFull, func(m *api.Module) { m.InitEnv = ring() }},
		{"commands", api.ErrFull, func(m *api.Module) { m.Sys = make([]api.Command, api.MaxCmds+1) }},
		{"goals", api.ErrFull, func(m *api.Module) { m.Assume = make([]api.Expr, api.MaxGoals+1) }},
		{"next of the environment", api.ErrNext, func(m *api.Module) { m.Env = []api.Command{command(same(next(0), next(0)))} }},
		{"set by the other side", api.ErrName, func(m *api.Module) { m.Sys = []api.Command{command(flag(1), free(0))} }},
		{"both goals", api.ErrArg, func(m *api.Module) { m.Ensure, m.Prio = []api.Expr{flag(1)}, []api.Expr{flag(1)} }},
		{"goal", api.ErrNext, func(m *api.Module) { m.Ensure = []api.Expr{flag(1), same(next(0), next(0))} }},
		{"last priority", api.ErrSort, func(m *api.Module) { m.Prio = []api.Expr{flag(1), num(0)} }},
	}
}

// P10.1 and P10.2: a module that is not valid, and its error ahead of that of too many vertices.
func TestNotValid(t *testing.T) {
	a := build(t, lamp())
	for _, make := range []func() api.Module{lamp, func() api.Module { return wide(63, 0) }} {
		for _, x := range spoiled() {
			m := make()
			x.change(&m)
			if b, err := arena.Build(m); err != x.err || err != module.May(m) || !reflect.DeepEqual(b, api.Arena{}) {
				t.Error(x.name, err, module.May(m), len(b.At))
			}
			assume, ensure := arena.Goals(m, a)
			if len(assume) != 0 || len(ensure) != 0 {
				t.Error(x.name, "Goals", assume, ensure)
			}
			if got := arena.Where(m, a, flag(1)); len(got) != 0 {
				t.Error(x.name, "Where", got)
			}
			if got := arena.Prios(m, a); len(got) != 0 {
				t.Error(x.name, "Prios", got)
			}
		}
	}
	if b, err := arena.Build(api.Module{}); err == api.OK || len(b.At) != 0 {
		t.Error("zero", err)
	}
}

// marks is a row of bools as a text.
func marks(row []bool) string {
	s := ""
	for _, holds := range row {
		if holds {
			s += "x"
		} else {
			s += "-"
		}
	}
	return s
}

// mixed has each kind of vertex, with each state of lamp in those that have any state.
func mixed() api.Arena {
	var a api.Arena
	for _, kind := range []int{api.VEnv, api.VSys, api.VStart, api.VRoot, 0, 5, -1} {
		for state := range 4 {
			a.At = append(a.At, api.Vertex{Kind: kind, State: state, Pick: 1})
		}
	}
	return a
}

const rest = "------------------------"

// P10.2
func TestWhere(t *testing.T) {
	for i, x := range []struct {
		e    api.Expr
		want string
	}{
		{flag(1), "xxxx"},
		{flag(0), "----"},
		{now(0), "-x-x"},
		{now(1), "--xx"},
		{and(now(0), not(now(1))), "-x--"},
		// Next is the state itself.
		{next(0), "-x-x"},
		{same(next(1), now(1)), "xxxx"},
		// Without a value, not a condition, or not an expression: not True.
		{never(), "----"},
		{not(never()), "----"},
		{node(api.EOr, now(0), never()), "-x-x"},
		{num(1), "----"},
		{now(2), "----"},
		{now(-1), "----"},
		{api.Expr{}, "----"},
		{node(api.EAnd, flag(1)), "----"},
		{ring(), "----"},
		{api.Expr{Op: api.EAnd, Kids: make([]api.Expr, 1<<20)}, "----"},
	} {
		if got := marks(arena.Where(lamp(), mixed(), x.e)); got != x.want+rest {
			t.Error(i, got)
		}
	}
	// The module's own conditions do not matter, nor does the game.
	a := build(t, lamp())
	a.Game = api.Game{}
	m := lamp()
	m.InitEnv, m.Env, m.Sys = flag(0), nil, nil
	if got := marks(arena.Where(m, a, now(0))); got != "-----x--" {
		t.Error(got)
	}
}

// P10.2: an arena of anything: numbers that are no states are True nowhere.
func TestOddArena(t *testing.T) {
	m := lamp()
	m.Prio = []api.Expr{flag(1), flag(1)}
	var a api.Arena
	for _, state := range []int{-1, 4, 99, math.MinInt, math.MaxInt, 1 << 32, 3} {
		a.At = append(a.At, api.Vertex{Kind: api.VEnv, State: state})
	}
	if got := marks(arena.Where(m, a, flag(1))); got != "------x" {
		t.Error("Where", got)
	}
	if got := arena.Prios(m, a); !slices.Equal(got, []int{0, 0, 0, 0, 0, 0, 1}) {
		t.Error("Prios", got)
	}
	if len(arena.Where(m, api.Arena{}, flag(1))) != 0 || len(arena.Prios(m, api.Arena{})) != 0 {
		t.Error("no vertices")
	}
	// Vertices beyond the bound of Build.
	a.At = slices.Repeat([]api.Vertex{{Kind: api.VEnv, State: 1}}, 2*api.MaxVerts)
	if got := arena.Where(m, a, now(0)); len(got) != len(a.At) || slices.Contains(got, false) {
		t.Error("many", len(got))
	}
}

// P10.2
func TestGoals(t *testing.T) {
	for i, x := range []struct {
		assume, ensure []api.Expr
		first, second  string
	}{
		{nil, nil, "", ""},
		{[]api.Expr{now(0)}, nil, "-x-x ", ""},
		{nil, []api.Expr{now(0)}, "", "-x-x "},
		{[]api.Expr{now(0), flag(0), now(1)}, []api.Expr{not(now(1)), never()}, "-x-x ---- --xx ", "xx-- ---- "},
		{[]api.Expr{flag(1), now(0), now(0), flag(0)}, []api.Expr{now(1), now(0), flag(1), flag(0)}, "xxxx -x-x -x-x ---- ", "--xx -x-x xxxx ---- "},
	} {
		m := lamp()
		m.Assume, m.Ensure = x.assume, x.ensure
		assume, ensure := arena.Goals(m, mixed())
		if got := goalText(t, assume); got != x.first {
			t.Error(i, "Assume", got)
		}
		if got := goalText(t, ensure); got != x.second {
			t.Error(i, "Ensure", got)
		}
	}
	// Priorities are no goals.
	m := lamp()
	m.Prio = []api.Expr{flag(1), flag(1)}
	if assume, ensure := arena.Goals(m, mixed()); len(assume) != 0 || len(ensure) != 0 {
		t.Error(assume, ensure)
	}
}

// goalText is what holds at the first vertices of mixed; at the others nothing may.
func goalText(t *testing.T, rows [][]bool) string {
	t.Helper()
	s := ""
	for _, row := range rows {
		got := marks(row)
		if len(got) != 28 || got[4:] != rest {
			t.Fatal("not as long as mixed, or beside VEnv", got)
		}
		s += got[:4] + " "
	}
	return s
}

// P10.2
func TestPrios(t *testing.T) {
	for i, x := range []struct {
		prio []api.Expr
		want []int
	}{
		{nil, []int{0, 0, 0, 0}},
		{[]api.Expr{flag(1)}, []int{0, 0, 0, 0}},
		{[]api.Expr{flag(0)}, []int{0, 0, 0, 0}},
		{[]api.Expr{flag(0), flag(1)}, []int{1, 1, 1, 1}},
		{[]api.Expr{flag(1), flag(0)}, []int{0, 0, 0, 0}},
		{[]api.Expr{flag(1), now(0), now(1)}, []int{0, 1, 2, 2}},
		{[]api.Expr{flag(1), now(1), now(0)}, []int{0, 2, 1, 2}},
		// The greatest one, and what has no value is not True.
		{[]api.Expr{flag(1), flag(1), now(0), now(1), never(), flag(0)}, []int{1, 2, 3, 3}},
		{[]api.Expr{flag(1), now(0), flag(0), flag(0), not(never()), and(now(0), now(1))}, []int{0, 1, 0, 5}},
		{[]api.Expr{never(), never(), never(), never(), never(), flag(1)}, []int{5, 5, 5, 5}},
	} {
		m := lamp()
		m.Prio = x.prio
		got := arena.Prios(m, mixed())
		if len(got) != 28 || !slices.Equal(got[:4], x.want) {
			t.Error(i, got)
		}
		for _, prio := range got[min(4, len(got)):] {
			if prio != 0 {
				t.Error(i, got)
			}
		}
	}
	// Goals are no priorities.
	m := lamp()
	m.Assume, m.Ensure = []api.Expr{flag(1), flag(1)}, []api.Expr{flag(1), flag(1)}
	if got := arena.Prios(m, mixed()); !slices.Equal(got, make([]int, 28)) {
		t.Error(got)
	}
}

// growModule is valid, with few states.
func growModule(t *testing.T, r *rand.Rand) api.Module {
	m := api.Module{
		Vars: []api.Var{
			{Name: "a", Env: true, Sort: truth},
			{Name: "b", Sort: whole, Low: -1, High: r.Intn(3)},
			{Name: "c", Sort: truth},
			{Name: "d", Env: true, Sort: whole, Low: 3, High: 3 + r.Intn(3)},
		},
	}
	m.InitEnv = []api.Expr{flag(1), now(0), not(now(0)), less(num(3), now(3))}[r.Intn(4)]
	m.InitSys = growCondition(r)
	for range r.Intn(5) {
		c := command(growCondition(r))
		if r.Intn(2) == 0 {
			c.Sets = append(c.Sets, []api.Set{free(0), set(0, now(2)), set(0, not(now(0)))}[r.Intn(3)])
		}
		if r.Intn(2) == 0 {
			c.Sets = append(c.Sets, []api.Set{free(3), set(3, num(4)), set(3, node(api.EAdd, now(3), num(1)))}[r.Intn(3)])
		}
		m.Env = append(m.Env, c)
	}
	for range r.Intn(5) {
		c := command([]api.Expr{growCondition(r), next(0), same(now(3), next(3))}[r.Intn(3)])
		if r.Intn(2) == 0 {
			c.Sets = append(c.Sets, []api.Set{free(1), set(1, num(0)), set(1, node(api.ESub, next(3), now(3)))}[r.Intn(3)])
		}
		if r.Intn(2) == 0 {
			c.Sets = append(c.Sets, []api.Set{free(2), set(2, next(0)), set(2, not(now(2)))}[r.Intn(3)])
		}
		m.Sys = append(m.Sys, c)
	}
	if module.May(m) != api.OK {
		t.Fatal("not valid", m)
	}
	return m
}

func growCondition(r *rand.Rand) api.Expr {
	return []api.Expr{flag(1), flag(1), now(0), now(2), not(now(2)), less(num(-1), now(1)), less(now(3), num(5)), flag(0)}[r.Intn(8)]
}

// chosen are the vertices to which edges have to lead from x, in the order of choice.
func chosen(m api.Module, x api.Vertex) []api.Vertex {
	var list []api.Vertex
	add := func(kind int, numbers []int, make func(n int) api.Vertex) {
		if x.Kind == kind {
			for _, n := range numbers {
				list = append(list, make(n))
			}
		}
	}
	moves := func(n int) api.Vertex { return api.Vertex{Kind: api.VEnv, State: n} }
	add(api.VRoot, choice.InitEnv(m), func(n int) api.Vertex { return api.Vertex{Kind: api.VStart, Pick: n} })
	add(api.VStart, choice.InitSys(m, x.Pick), moves)
	add(api.VEnv, choice.Env(m, x.State), func(n int) api.Vertex { return api.Vertex{Kind: api.VSys, State: x.State, Pick: n} })
	add(api.VSys, choice.Sys(m, x.State, x.Pick), moves)
	return list
}

// P10.1 and P10.3: each vertex is there once, has the edges of choice, and is numbered by the first of them that leads to it.
func TestBuildSampled(t *testing.T) {
	r := rand.New(rand.NewSource(10))
	for i := range 400 {
		m := growModule(t, r)
		a := build(t, m, i)
		if len(a.Game.Owner) != len(a.At) || len(a.Game.Next) != len(a.At) || a.At[0] != (api.Vertex{Kind: api.VRoot}) {
			t.Fatal(i, a)
		}
		found := []api.Vertex{a.At[0]}
		for v, x := range a.At {
			list := chosen(m, x)
			if len(list) != len(a.Game.Next[v]) {
				t.Fatal(i, v, list, a.Game.Next[v])
			}
			for _, y := range list {
				if w := slices.Index(a.At, y); w < 0 || !slices.Contains(a.Game.Next[v], w) {
					t.Fatal(i, v, "no edge to", y)
				}
				if !slices.Contains(found, y) {
					found = append(found, y)
				}
			}
		}
		if !slices.Equal(found, a.At) {
			t.Fatal(i, "found", found, "not", a.At)
		}
		follows(t, m, a, i)
	}
}

// follows checks P10.3, and that Where is what eval says.
func follows(t *testing.T, m api.Module, a api.Arena, i int) {
	t.Helper()
	if got := graph.May(a.Game); got != api.OK {
		t.Error(i, "not valid", got)
	}
	if slices.Contains(graph.Reach(a.Game, []bool{true}), false) {
		t.Error(i, "not reached")
	}
	for v, list := range a.Game.Next {
		for _, w := range list {
			if a.Game.Owner[v]+a.Game.Owner[w] != api.Env+api.Sys {
				t.Error(i, "not in turn", v, w)
			}
		}
	}
	if a.Game.Owner[0] != api.Env {
		t.Error(i, "the environment does not begin")
	}
	e := less(now(1), num(0))
	for v, holds := range arena.Where(m, a, e) {
		x := a.At[v]
		if want := x.Kind == api.VEnv && eval.True(m.Vars, e, x.State, x.State); holds != want {
			t.Error(i, v, holds)
		}
	}
}

// full has something in every list.
func full() api.Module {
	m := lamp()
	m.Env = append(m.Env, command(now(0), set(0, not(now(1)))))
	m.Sys = append(m.Sys, command(flag(1), free(1)))
	m.Assume, m.Ensure = []api.Expr{now(0), now(0)}, []api.Expr{now(1), and(now(0), now(1))}
	return m
}

// R2: arguments stay as they are, and no two lists share memory.
func TestMemory(t *testing.T) {
	m, a := full(), build(t, full())
	assume, ensure := arena.Goals(m, a)
	prio := full()
	prio.Assume, prio.Ensure, prio.Prio = nil, nil, []api.Expr{flag(1), now(0)}
	arena.Prios(prio, a)
	arena.Where(m, a, now(0))
	if !reflect.DeepEqual(m, full()) || !reflect.DeepEqual(a, build(t, full())) {
		t.Error("an argument is not what it was")
	}
	for _, row := range append(assume, ensure...) {
		_ = append(row, true)
		for v := range row {
			row[v] = true
		}
	}
	b, _ := arena.Goals(m, a)
	if marks(b[0]) == marks(assume[0]) {
		t.Error("Goals hands out what it keeps")
	}
	lists := a.Game.Next
	for v, list := range lists {
		copies := make([][]int, len(lists))
		for w := range lists {
			copies[w] = slices.Clone(lists[w])
		}
		_ = append(list, -7)
		for i := range list {
			list[i] = -1
		}
		for w := range lists {
			if w != v && !slices.Equal(lists[w], copies[w]) {
				t.Error(v, "shares with", w)
			}
		}
	}
	if !reflect.DeepEqual(build(t, full()), build(t, full())) {
		t.Error("not the same again")
	}
}
