package graph_test

import (
	"math"
	"math/rand"
	"reflect"
	"slices"
	"testing"

	"parry/api"
	"parry/graph"
)

// made: both players have a vertex with two edges, one with a loop, and a dead end; vertex 6 is on its own.
func made() api.Game {
	return api.Game{
		Owner: []int{api.Env, api.Sys, api.Sys, api.Env, api.Env, api.Sys, api.Env},
		Next:  [][]int{{1, 3}, {0, 2, 4}, {2}, {3, 5}, nil, {}, {0, 6}},
	}
}

// plain has only dead ends of Env.
func plain(total int) api.Game {
	return api.Game{Owner: make([]int, total), Next: make([][]int, total)}
}

// row is a row of bools from a text: x is in it.
func row(s string) []bool {
	var list []bool
	for _, b := range []byte(s) {
		list = append(list, b == 'x')
	}
	return list
}

func text(row []bool) string {
	s := ""
	for _, in := range row {
		if in {
			s += "x"
		} else {
			s += "-"
		}
	}
	return s
}

func sameRows(a, b [][]int) bool { return slices.EqualFunc(a, b, slices.Equal[[]int]) }

// check holds a game against the owners and the rows that it has to have.
func check(t *testing.T, name string, got api.Game, owner []int, next [][]int, where ...any) {
	t.Helper()
	if !slices.Equal(got.Owner, owner) || !sameRows(got.Next, next) {
		t.Error(name, got, "not", owner, next, "at", where)
	}
}

// wantEmpty asks every call that has a game, with rows that would do for a valid one.
func wantEmpty(t *testing.T, g api.Game, where ...any) {
	t.Helper()
	all := make([]bool, len(g.Owner)+1)
	to := make([]int, len(g.Owner)+1)
	for v := range all {
		all[v] = true
	}
	for _, in := range [][]bool{nil, all} {
		if got := graph.Reach(g, in); len(got) != 0 {
			t.Error("Reach", got, where)
		}
		check(t, "Only", graph.Only(g, in), nil, nil, where)
	}
	for _, who := range []int{api.Env, api.Sys, 2, -1} {
		if got := graph.Dead(g, who); len(got) != 0 {
			t.Error("Dead", got, where)
		}
		check(t, "Follow", graph.Follow(g, who, nil), nil, nil, where)
		check(t, "Follow", graph.Follow(g, who, to), nil, nil, where)
	}
	if got := graph.Before(g); len(got) != 0 {
		t.Error("Before", got, where)
	}
}

// P9.1
func TestMayValid(t *testing.T) {
	for i, g := range []api.Game{
		made(),
		{},
		{Owner: []int{}, Next: [][]int{}},
		plain(1),
		{Owner: []int{api.Env}, Next: [][]int{{0}}},
		{Owner: []int{api.Sys}, Next: [][]int{{}}},
		{Owner: []int{api.Env, api.Sys, api.Env}, Next: [][]int{{0, 1, 2}, {0, 1, 2}, {0, 1, 2}}},
		{Owner: []int{api.Env, api.Sys, api.Env}, Next: [][]int{{2}, {0, 2}, {1}}},
		plain(api.MaxVerts - 1),
		plain(api.MaxVerts),
	} {
		if got := graph.May(g); got != api.OK {
			t.Error(i, got)
		}
	}
}

// wrong is a way to spoil made, or any other valid game with at least two vertices.
type wrong struct {
	name   string
	change func(g *api.Game)
}

// spoiled are ErrArg, each for one reason alone.
func spoiled() []wrong {
	last := func(g *api.Game) int { return len(g.Owner) - 1 }
	return []wrong{
		{"no Next", func(g *api.Game) { g.Next = nil }},
		{"Next one too short", func(g *api.Game) { g.Next = g.Next[:last(g)] }},
		{"Next one too long", func(g *api.Game) { g.Next = append(g.Next, nil) }},
		{"no Owner", func(g *api.Game) { g.Owner = nil }},
		{"Next far too long", func(g *api.Game) { g.Next = append(g.Next, make([][]int, 2*api.MaxVerts)...) }},
		{"owner 2", func(g *api.Game) { g.Owner[0] = 2 }},
		{"last owner 2", func(g *api.Game) { g.Owner[last(g)] = 2 }},
		{"owner -1", func(g *api.Game) { g.Owner[1] = -1 }},
		{"greatest owner", func(g *api.Game) { g.Owner[1] = math.MaxInt }},
		{"least owner", func(g *api.Game) { g.Owner[1] = math.MinInt }},
		{"owner 1 in 32 bits", func(g *api.Game) { g.Owner[1] = 1<<32 + 1 }},
		{"descending", func(g *api.Game) { g.Next[0] = []int{1, 0} }},
		{"twice", func(g *api.Game) { g.Next[0] = []int{1, 1} }},
		{"twice 0", func(g *api.Game) { g.Next[1] = []int{0, 0} }},
		{"descending at the end", func(g *api.Game) { g.Next[last(g)] = []int{0, 1, 0} }},
		{"one too great", func(g *api.Game) { g.Next[0] = []int{last(g) + 1} }},
		{"one too great at the end", func(g *api.Game) { g.Next[last(g)] = []int{0, last(g), last(g) + 1} }},
		{"-1", func(g *api.Game) { g.Next[0] = []int{-1} }},
		{"-1 ahead", func(g *api.Game) { g.Next[last(g)] = []int{-1, 0, 1} }},
		{"greatest", func(g *api.Game) { g.Next[0] = []int{0, math.MaxInt} }},
		{"greatest twice", func(g *api.Game) { g.Next[0] = []int{math.MaxInt, math.MinInt} }},
		{"least", func(g *api.Game) { g.Next[0] = []int{math.MinInt} }},
		{"0 in 32 bits", func(g *api.Game) { g.Next[0] = []int{1 << 32} }},
	}
}

// P9.1, and what is returned for a game that is not valid.
func TestMayWrong(t *testing.T) {
	for _, g := range []func() api.Game{
		made,
		func() api.Game { return plain(2) },
		func() api.Game { return plain(api.MaxVerts) },
	} {
		for _, x := range spoiled() {
			g := g()
			x.change(&g)
			if got := graph.May(g); got != api.ErrArg {
				t.Error(x.name, len(g.Owner), got)
			}
			wantEmpty(t, g, x.name, len(g.Owner))
		}
	}
}

// P9.1: too many vertices are told ahead of everything else.
func TestMayOrder(t *testing.T) {
	for _, total := range []int{api.MaxVerts + 1, api.MaxVerts + 2, 3 * api.MaxVerts} {
		g := plain(total)
		if got := graph.May(g); got != api.ErrFull {
			t.Error(total, got)
		}
		wantEmpty(t, g, total)
		for _, x := range spoiled() {
			if x.name == "no Owner" {
				continue
			}
			g := plain(total)
			x.change(&g)
			if got := graph.May(g); got != api.ErrFull {
				t.Error(total, x.name, got)
			}
			wantEmpty(t, g, total, x.name)
		}
	}
	// Vertices are the elements of Owner: however long Next is, they are not too many.
	g := plain(api.MaxVerts)
	g.Next = make([][]int, api.MaxVerts+1)
	if got := graph.May(g); got != api.ErrArg {
		t.Error("Next alone too long", got)
	}
}

// P9.1
func TestSame(t *testing.T) {
	games := []api.Game{made(), {}, plain(1), plain(2), plain(api.MaxVerts), plain(api.MaxVerts + 1)}
	for _, x := range append(spoiled(), []wrong{
		{"other owner", func(g *api.Game) { g.Owner[6] = api.Sys }},
		{"edge less", func(g *api.Game) { g.Next[6] = []int{0} }},
		{"edge more", func(g *api.Game) { g.Next[6] = []int{0, 1, 6} }},
		{"other edge", func(g *api.Game) { g.Next[6] = []int{1, 6} }},
		{"edge of a dead end", func(g *api.Game) { g.Next[4] = []int{0} }},
		{"edge gone", func(g *api.Game) { g.Next[2] = nil }},
		{"rows swapped", func(g *api.Game) { g.Next[2], g.Next[4] = g.Next[4], g.Next[2] }},
		{"owners only", func(g *api.Game) { g.Next = [][]int{{}} }},
		{"one vertex more", func(g *api.Game) { g.Owner, g.Next = append(g.Owner, 0), append(g.Next, nil) }},
	}...) {
		g := made()
		x.change(&g)
		games = append(games, g)
	}
	for i, a := range games {
		for j, b := range games {
			if got := graph.Same(a, b); got != (i == j) {
				t.Error(i, j, got)
			}
		}
		if !graph.Same(a, api.Game{Owner: slices.Clone(a.Owner), Next: slices.Clone(a.Next)}) {
			t.Error(i, "a copy")
		}
	}
	// nil and empty lists are equivalent.
	if !graph.Same(api.Game{}, api.Game{Owner: []int{}, Next: [][]int{}}) {
		t.Error("empty lists")
	}
	if !graph.Same(plain(1), api.Game{Owner: []int{0}, Next: [][]int{{}}}) {
		t.Error("an empty row")
	}
}

// P9.2
func TestBefore(t *testing.T) {
	for i, x := range []struct {
		next, want [][]int
	}{
		{nil, nil},
		{[][]int{nil}, [][]int{nil}},
		{[][]int{{0}}, [][]int{{0}}},
		{[][]int{{1}, nil}, [][]int{nil, {0}}},
		{[][]int{{2}, {2}, {2}}, [][]int{nil, nil, {0, 1, 2}}},
		{[][]int{{0, 1, 2}, nil, {1}}, [][]int{{0}, {0, 2}, {0}}},
		{made().Next, [][]int{{1, 6}, {0}, {1, 2}, {0, 3}, {1}, {3}, {6}}},
	} {
		g := api.Game{Owner: make([]int, len(x.next)), Next: x.next}
		if got := graph.Before(g); !sameRows(got, x.want) {
			t.Error(i, got)
		}
	}
}

// P9.2
func TestReach(t *testing.T) {
	for _, x := range []struct{ from, want string }{
		{"", "-------"},
		{"-------", "-------"},
		{"x", "xxxxxx-"},
		{"-x", "xxxxxx-"},
		{"--x", "--x----"},
		{"---x", "---x-x-"},
		{"----x", "----x--"},
		{"-----x", "-----x-"},
		{"------x", "xxxxxxx"},
		{"--xx", "--xx-x-"},
		{"--x-xx-", "--x-xx-"},
		// What is beyond the last vertex is ignored.
		{"--x----x", "--x----"},
		{"-------x", "-------"},
		{"---x---xxxxxxx", "---x-x-"},
	} {
		if got := text(graph.Reach(made(), row(x.from))); got != x.want {
			t.Error(x.from, got)
		}
	}
	if got := graph.Reach(api.Game{}, row("x")); len(got) != 0 {
		t.Error("no vertices", got)
	}
}

// P9.2: the owner does not matter to where edges lead.
func TestReachOwners(t *testing.T) {
	for v := range made().Owner {
		g := made()
		g.Owner[v] = 1 - g.Owner[v]
		if got := text(graph.Reach(g, row("---x"))); got != "---x-x-" {
			t.Error(v, got)
		}
	}
}

// P9.2
func TestDead(t *testing.T) {
	for _, x := range []struct {
		who  int
		want string
	}{
		{api.Env, "----x--"},
		{api.Sys, "-----x-"},
		// Nobody else has a vertex.
		{2, "-------"},
		{-1, "-------"},
		{math.MaxInt, "-------"},
	} {
		if got := text(graph.Dead(made(), x.who)); got != x.want {
			t.Error(x.who, got)
		}
	}
	// A loop leads on; so does an edge to a dead end.
	g := api.Game{Owner: []int{api.Sys, api.Sys, api.Sys}, Next: [][]int{{0}, {2}, {}}}
	if got := text(graph.Dead(g, api.Sys)); got != "--x" {
		t.Error("loop", got)
	}
	if got := text(graph.Dead(plain(3), api.Env)); got != "xxx" {
		t.Error("all", got)
	}
	if got := graph.Dead(api.Game{}, api.Env); len(got) != 0 {
		t.Error("no vertices", got)
	}
}

// P9.3
func TestOnly(t *testing.T) {
	for _, x := range []struct {
		in   string
		want [][]int
	}{
		{"xxxxxxx", made().Next},
		{"", make([][]int, 7)},
		{"-------", make([][]int, 7)},
		{"xx", [][]int{{1}, {0}, nil, nil, nil, nil, nil}},
		{"x", make([][]int, 7)},
		{"--x", [][]int{nil, nil, {2}, nil, nil, nil, nil}},
		{"-xx-x", [][]int{nil, {2, 4}, {2}, nil, nil, nil, nil}},
		{"x--x-xx", [][]int{{3}, nil, nil, {3, 5}, nil, nil, {0, 6}}},
		{"-xxxxx-", [][]int{nil, {2, 4}, {2}, {3, 5}, nil, nil, nil}},
		// What is beyond the last vertex is ignored.
		{"xx-----xxx", [][]int{{1}, {0}, nil, nil, nil, nil, nil}},
		{"-------x", make([][]int, 7)},
		{"xxxxxxxxxxx", made().Next},
	} {
		check(t, "Only", graph.Only(made(), row(x.in)), made().Owner, x.want, x.in)
	}
	check(t, "Only", graph.Only(api.Game{}, row("xx")), nil, nil, "no vertices")
}

// P9.3
func TestFollow(t *testing.T) {
	for i, x := range []struct {
		who  int
		to   []int
		want [][]int
	}{
		{api.Env, []int{1, 0, 0, 5, 0, 0, 6}, [][]int{{1}, {0, 2, 4}, {2}, {5}, nil, nil, {6}}},
		{api.Env, []int{3, -1, -1, 3, -1, -1, 0}, [][]int{{3}, {0, 2, 4}, {2}, {3}, nil, nil, {0}}},
		{api.Sys, []int{1, 0, 2, 5, 0, 0, 6}, [][]int{{1, 3}, {0}, {2}, {3, 5}, nil, nil, {0, 6}}},
		{api.Sys, []int{-1, 2, 2}, [][]int{{1, 3}, {2}, {2}, {3, 5}, nil, nil, {0, 6}}},
		{api.Sys, []int{-1, 4, 1}, [][]int{{1, 3}, {4}, nil, {3, 5}, nil, nil, {0, 6}}},
		// No such edge, or no such vertex.
		{api.Env, []int{0, 0, 0, 0, 0, 0, 1}, [][]int{nil, {0, 2, 4}, {2}, nil, nil, nil, nil}},
		{api.Env, []int{2, 2, 2, 4, 4, 5, 5}, [][]int{nil, {0, 2, 4}, {2}, nil, nil, nil, nil}},
		{api.Env, []int{7, 7, 7, -1, 0, 0, math.MinInt}, [][]int{nil, {0, 2, 4}, {2}, nil, nil, nil, nil}},
		{api.Sys, []int{1, math.MaxInt, -1}, [][]int{{1, 3}, nil, nil, {3, 5}, nil, nil, {0, 6}}},
		{api.Sys, []int{1, 1 << 32, 1<<32 + 2}, [][]int{{1, 3}, nil, nil, {3, 5}, nil, nil, {0, 6}}},
		// A row that is too short; 0 would be an edge of 1 and of 6.
		{api.Env, nil, [][]int{nil, {0, 2, 4}, {2}, nil, nil, nil, nil}},
		{api.Sys, nil, [][]int{{1, 3}, nil, nil, {3, 5}, nil, nil, {0, 6}}},
		{api.Sys, []int{1}, [][]int{{1, 3}, nil, nil, {3, 5}, nil, nil, {0, 6}}},
		{api.Env, []int{1, 0, 0, 3, 0, 0}, [][]int{{1}, {0, 2, 4}, {2}, {3}, nil, nil, nil}},
		// One that is too long.
		{api.Env, []int{1, 0, 0, 3, 0, 0, 0, 1, 2}, [][]int{{1}, {0, 2, 4}, {2}, {3}, nil, nil, {0}}},
		// Nobody else has a vertex: all edges stay.
		{2, []int{1, 0, 0, 3}, made().Next},
		{-1, nil, made().Next},
		{math.MaxInt, nil, made().Next},
	} {
		check(t, "Follow", graph.Follow(made(), x.who, x.to), made().Owner, x.want, i)
	}
	check(t, "Follow", graph.Follow(api.Game{}, api.Env, []int{0}), nil, nil, "no vertices")
}

// growGame is valid, with fewer than nine vertices; spare tells how seldom an edge is.
func growGame(t *testing.T, r *rand.Rand) api.Game {
	g := plain(r.Intn(9))
	spare := 1 + r.Intn(6)
	for from := range g.Owner {
		g.Owner[from] = r.Intn(2)
		for to := range g.Owner {
			if r.Intn(spare) == 0 {
				g.Next[from] = append(g.Next[from], to)
			}
		}
	}
	if graph.May(g) != api.OK {
		t.Fatal("not valid", g)
	}
	return g
}

func growRow(r *rand.Rand, most int) []bool {
	list := make([]bool, r.Intn(most))
	for i := range list {
		list[i] = r.Intn(2) == 0
	}
	return list
}

func in(row []bool, v int) bool { return v < len(row) && row[v] }

// edges asks of each pair of vertices whether there is an edge.
func edges(g api.Game, is func(from, to int) bool) [][]int {
	next := make([][]int, len(g.Owner))
	for from := range g.Owner {
		for to := range g.Owner {
			if is(from, to) {
				next[from] = append(next[from], to)
			}
		}
	}
	return next
}

func has(g api.Game, from, to int) bool { return slices.Contains(g.Next[from], to) }

// wantReach takes each vertex anew until nothing changes any more.
func wantReach(g api.Game, from []bool) []bool {
	row := make([]bool, len(g.Owner))
	for v := range row {
		row[v] = in(from, v)
	}
	for range row {
		for v := range row {
			for to := range row {
				row[to] = row[to] || row[v] && has(g, v, to)
			}
		}
	}
	return row
}

// P9.2 and P9.3: many games, against what is said of each vertex and of each pair of them.
func TestSample(t *testing.T) {
	r := rand.New(rand.NewSource(9))
	for i := range 3000 {
		g := growGame(t, r)
		if got := graph.Before(g); !sameRows(got, edges(g, func(v, w int) bool { return has(g, w, v) })) {
			t.Error("Before", i, g, got)
		}
		from := growRow(r, 12)
		if got := graph.Reach(g, from); !slices.Equal(got, wantReach(g, from)) {
			t.Error("Reach", i, g, from, got)
		}
		check(t, "Only", graph.Only(g, from), g.Owner, edges(g, func(v, w int) bool {
			return in(from, v) && in(from, w) && has(g, v, w)
		}), i, g, from)
		to := make([]int, r.Intn(12))
		for v := range to {
			to[v] = r.Intn(len(to)+2) - 1
		}
		for _, who := range []int{api.Env, api.Sys} {
			dead := graph.Dead(g, who)
			if len(dead) != len(g.Owner) {
				t.Error("Dead", i, g, dead)
			}
			for v, is := range dead {
				if is != (g.Owner[v] == who && len(g.Next[v]) == 0) {
					t.Error("Dead", i, g, who, dead)
				}
			}
			h := graph.Follow(g, who, to)
			check(t, "Follow", h, g.Owner, edges(g, func(v, w int) bool {
				return has(g, v, w) && (g.Owner[v] != who || v < len(to) && to[v] == w)
			}), i, g, who, to)
			if graph.May(h) != api.OK || graph.May(graph.Only(g, from)) != api.OK {
				t.Error("not valid any more", i, g)
			}
		}
	}
}

// P9.4: reversed once, each edge is there and no other one; reversed twice, the game is what it was.
func TestReversed(t *testing.T) {
	r := rand.New(rand.NewSource(94))
	for i := range 3000 {
		g := growGame(t, r)
		back := api.Game{Owner: g.Owner, Next: graph.Before(g)}
		if graph.May(back) != api.OK {
			t.Error("not valid", i, g, back)
		}
		for from := range g.Owner {
			for to := range g.Owner {
				if has(g, from, to) != has(back, to, from) {
					t.Error("edge", i, g, from, to)
				}
			}
		}
		if !sameRows(graph.Before(back), g.Next) {
			t.Error("twice", i, g)
		}
	}
}

// The greatest games: as many vertices as there may be, with as many edges, or as far apart.
func TestGreatest(t *testing.T) {
	const total = api.MaxVerts
	all, whole := make([]int, total), make([]bool, total)
	for v := range all {
		all[v], whole[v] = v, true
	}
	g := plain(total)
	for v := range g.Next {
		g.Next[v] = all
	}
	if graph.May(g) != api.OK || !sameRows(graph.Before(g), g.Next) || !graph.Same(graph.Only(g, whole), g) {
		t.Error("each edge")
	}
	if !slices.Equal(graph.Reach(g, []bool{true}), whole) || slices.Contains(graph.Dead(g, api.Env), true) {
		t.Error("each vertex")
	}
	chain := plain(total)
	for v := range total - 1 {
		chain.Next[v] = []int{v + 1}
	}
	if !slices.Equal(graph.Reach(chain, []bool{true}), whole) {
		t.Error("a chain")
	}
	if dead := graph.Dead(chain, api.Env); slices.Index(dead, true) != total-1 {
		t.Error("the end of a chain")
	}
	if h := graph.Follow(g, api.Env, all); !sameRows(h.Next, graph.Before(h)) || !slices.Equal(h.Next[total-1], []int{total - 1}) {
		t.Error("loops alone")
	}
}

// roomy is made with room in each of its lists, and something in that room.
func roomy() (api.Game, []bool, []int) {
	g := made()
	for v, next := range g.Next {
		g.Next[v] = append(append(make([]int, 0, 9), next...), 6, 6)[:len(next)]
	}
	g.Owner = append(g.Owner, 7, 7)[:7]
	g.Next = append(g.Next, []int{9}, []int{9})[:7]
	return g, append(row("xxxxx"), true, true, true)[:5], append([]int{1, 0, 2, 5}, 0, 0, 6)[:4]
}

// R2 and R6: arguments stay as they are, up to what is beyond their length, and what is there is not read.
func TestArguments(t *testing.T) {
	g, in, to := roomy()
	for range 2 {
		if graph.May(g) != api.OK || !graph.Same(g, made()) || !graph.Same(made(), g) {
			t.Error("May or Same")
		}
		if got := graph.Before(g); !sameRows(got, graph.Before(made())) {
			t.Error("Before", got)
		}
		if got := text(graph.Reach(g, in[3:4])); got != "xxxxxx-" {
			t.Error("Reach", got)
		}
		if got := text(graph.Dead(g, api.Env)); got != "----x--" {
			t.Error("Dead", got)
		}
		check(t, "Only", graph.Only(g, in), made().Owner, [][]int{{1, 3}, {0, 2, 4}, {2}, {3}, nil, nil, nil})
		check(t, "Follow", graph.Follow(g, api.Env, to), made().Owner, [][]int{{1}, {0, 2, 4}, {2}, {5}, nil, nil, nil})
	}
	fresh, freshIn, freshTo := roomy()
	if !reflect.DeepEqual(g, fresh) || !reflect.DeepEqual(in, freshIn) || !reflect.DeepEqual(to, freshTo) {
		t.Error("changed")
	}
	for v := range g.Next {
		if !slices.Equal(g.Next[v][:cap(g.Next[v])], fresh.Next[v][:cap(fresh.Next[v])]) {
			t.Error("changed beyond the length", v)
		}
	}
	if !slices.Equal(g.Owner[:9], fresh.Owner[:9]) || !sameRows(g.Next[:9], fresh.Next[:9]) ||
		!slices.Equal(in[:8], freshIn[:8]) || !slices.Equal(to[:7], freshTo[:7]) {
		t.Error("changed beyond the length")
	}
}

// spoil writes into a list, and into the room behind it.
func spoil(list []int) {
	list = list[:cap(list)]
	for i := range list {
		list[i] = -7
	}
}

// R2: a result is new memory, and no two of its lists share any.
func TestResults(t *testing.T) {
	g, in, to := roomy()
	for name, call := range map[string]func() ([]int, [][]int){
		"Before": func() ([]int, [][]int) { return nil, graph.Before(g) },
		"Only":   func() ([]int, [][]int) { h := graph.Only(g, row("xxxxxxx")); return h.Owner, h.Next },
		"Follow": func() ([]int, [][]int) { h := graph.Follow(g, 5, to); return h.Owner, h.Next },
		"one":    func() ([]int, [][]int) { h := graph.Follow(g, api.Env, to); return h.Owner, h.Next },
	} {
		wantOwner, wantNext := call()
		for v := range wantNext {
			owner, next := call()
			spoil(next[v])
			next[v] = wantNext[v]
			if !slices.Equal(owner, wantOwner) || !sameRows(next, wantNext) {
				t.Error(name, "shares row", v)
			}
		}
		owner, next := call()
		spoil(owner)
		if !sameRows(next, wantNext) {
			t.Error(name, "shares the owners")
		}
	}
	for _, list := range [][]bool{graph.Reach(g, in), graph.Dead(g, api.Env)} {
		for i := range list[:cap(list)] {
			list[:cap(list)][i] = true
		}
	}
	fresh, freshIn, freshTo := roomy()
	if !reflect.DeepEqual(g, fresh) || !slices.Equal(in[:8], freshIn[:8]) || !slices.Equal(to[:7], freshTo[:7]) {
		t.Error("shares an argument")
	}
}
