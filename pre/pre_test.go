package pre_test

import (
	"math"
	"math/rand"
	"reflect"
	"slices"
	"testing"

	"parry/api"
	"parry/graph"
	"parry/pre"
)

// made: both players have a vertex with several edges, one with a loop alone, and a dead end.
func made() api.Game {
	return api.Game{
		Owner: []int{api.Env, api.Sys, api.Env, api.Sys, api.Env, api.Sys, api.Sys},
		Next:  [][]int{{1, 3, 4}, {0, 2, 5}, {2}, {3}, nil, {}, {2, 4}},
	}
}

// plain has only dead ends of Env.
func plain(total int) api.Game {
	return api.Game{Owner: make([]int, total), Next: make([][]int, total)}
}

// row is a row of bools from a text: x is in it.
func row(s string) []bool {
	var list []bool
	for _, b := range []byte(s) {
		list = append(list, b == 'x')
	}
	return list
}

func text(row []bool) string {
	s := ""
	for _, in := range row {
		if in {
			s += "x"
		} else {
			s += "-"
		}
	}
	return s
}

// P11.1: by hand.
func TestForce(t *testing.T) {
	for _, x := range []struct{ in, env, sys string }{
		// Into nothing, only the dead ends of the other player.
		{"-------", "-----x-", "----x--"},
		{"xxxxxxx", "xxxx-xx", "xxxxx-x"},
		{"x------", "-----x-", "-x--x--"},
		{"-x-----", "x----x-", "----x--"},
		{"--x----", "--x--x-", "-xx-x-x"},
		{"---x---", "x--x-x-", "---xx--"},
		{"----x--", "x----x-", "----x-x"},
		{"-----x-", "-----x-", "-x--x--"},
		{"------x", "-----x-", "----x--"},
		// All edges, all but one.
		{"-x-xx--", "x--x-x-", "x--xx-x"},
		{"-x-x---", "x--x-x-", "---xx--"},
		{"---xx--", "x--x-x-", "---xx-x"},
		{"x-x--x-", "-xx--x-", "-xx-x-x"},
		{"x-x----", "--x--x-", "-xx-x-x"},
		{"--x-x--", "x-x--xx", "-xx-x-x"},
		{"xx-x-xx", "x--x-x-", "-x-xx--"},
	} {
		if got := text(pre.Force(made(), api.Env, row(x.in))); got != x.env {
			t.Error("Env", x.in, got)
		}
		if got := text(pre.Force(made(), api.Sys, row(x.in))); got != x.sys {
			t.Error("Sys", x.in, got)
		}
	}
}

// P11.1: at a dead end, its owner forces nothing, and the other player everything, whatever the row is.
func TestForceDeadEnds(t *testing.T) {
	for _, next := range [][][]int{{nil}, {{}}} {
		for _, in := range [][]bool{nil, {}, {false}, {true}, {true, true}, {false, true}} {
			for _, owner := range []int{api.Env, api.Sys} {
				g := api.Game{Owner: []int{owner}, Next: next}
				if got := pre.Force(g, owner, in); !slices.Equal(got, []bool{false}) {
					t.Error("its owner", owner, in, got)
				}
				if got := pre.Force(g, 1-owner, in); !slices.Equal(got, []bool{true}) {
					t.Error("the other player", owner, in, got)
				}
			}
		}
	}
	// The step before a dead end goes into it like into any other vertex.
	g := api.Game{Owner: []int{api.Sys, api.Sys, api.Env, api.Env}, Next: [][]int{{1}, nil, {3}, nil}}
	if got := text(pre.Force(g, api.Sys, row("-x-x"))); got != "x-xx" {
		t.Error("Sys, one step ahead", got)
	}
	if got := text(pre.Force(g, api.Env, row("-x-x"))); got != "xxx-" {
		t.Error("Env, one step ahead", got)
	}
}

// P11.1: where only one edge leads on, both players force the same, and a loop leads to where it begins.
func TestForceOneEdge(t *testing.T) {
	for _, owner := range []int{api.Env, api.Sys} {
		g := api.Game{Owner: []int{owner, owner, owner}, Next: [][]int{{1}, {1}, {0}}}
		for in, want := range map[string]string{"---": "---", "x--": "--x", "-x-": "xx-", "--x": "---", "xx-": "xxx"} {
			for _, who := range []int{api.Env, api.Sys} {
				if got := text(pre.Force(g, who, row(in))); got != want {
					t.Error(owner, who, in, got)
				}
			}
		}
	}
}

// P11.1: no vertices, and few: a vertex of the row is in Force only if a step leads back.
func TestForceFewVertices(t *testing.T) {
	for _, who := range []int{api.Env, api.Sys} {
		for _, in := range [][]bool{nil, {}, {true}, {true, false, true}} {
			for _, g := range []api.Game{{}, {Owner: []int{}, Next: [][]int{}}} {
				if got := pre.Force(g, who, in); len(got) != 0 {
					t.Error("no vertices", who, in, got)
				}
			}
		}
		g := api.Game{Owner: []int{who}, Next: [][]int{{0}}}
		if !slices.Equal(pre.Force(g, who, row("x")), row("x")) || !slices.Equal(pre.Force(g, who, nil), row("-")) {
			t.Error("a loop", who)
		}
		g = api.Game{Owner: []int{who, 1 - who}, Next: [][]int{{1}, {1}}}
		if got := text(pre.Force(g, who, row("x-"))); got != "--" {
			t.Error("no way back", who, got)
		}
	}
}

// nobody lists who is neither Env nor Sys.
func nobody() []int {
	return []int{2, -1, 3, -2, 1 << 32, 1<<32 + 1, 1 << 8, -1 << 32, math.MaxInt, math.MinInt}
}

// P11.1
func TestForceNobody(t *testing.T) {
	for _, who := range nobody() {
		for _, in := range [][]bool{nil, {}, row("x"), row("-------"), row("xxxxxxx"), row("xxxxxxxxx")} {
			for _, g := range []api.Game{made(), {}, plain(1), plain(api.MaxVerts)} {
				if got := pre.Force(g, who, in); len(got) != 0 {
					t.Error(who, in, got)
				}
			}
		}
	}
}

// P11.1: what is missing at the end is false, and what is beyond the last vertex is ignored.
func TestForceRows(t *testing.T) {
	for short, whole := range map[string]string{
		"":               "-------",
		"-":              "-------",
		"x":              "x------",
		"--x":            "--x----",
		"-x-xx":          "-x-xx--",
		"x-x--x":         "x-x--x-",
		"------x":        "------x",
		"-------x":       "-------",
		"-------xxxxxxx": "-------",
		"--x-x--x":       "--x-x--",
		"xxxxxxx-":       "xxxxxxx",
		"xxxxxxxxxxxxxx": "xxxxxxx",
	} {
		for _, who := range []int{api.Env, api.Sys} {
			got, want := pre.Force(made(), who, row(short)), pre.Force(made(), who, row(whole))
			if len(got) != 7 || !slices.Equal(got, want) {
				t.Error(who, short, text(got), text(want))
			}
		}
	}
	long := make([]bool, 5*api.MaxVerts)
	for v := range long {
		long[v] = v >= 7
	}
	if got := text(pre.Force(made(), api.Sys, long)); got != "----x--" {
		t.Error("far too long", got)
	}
}

// wrong is a game that is not valid; total is the number of its vertices.
type wrong struct {
	name  string
	total int
	g     api.Game
}

func spoiled(name string, change func(g *api.Game)) wrong {
	g := made()
	change(&g)
	return wrong{name, len(g.Owner), g}
}

func wrongs() []wrong {
	return []wrong{
		spoiled("no Next", func(g *api.Game) { g.Next = nil }),
		spoiled("Next one too short", func(g *api.Game) { g.Next = g.Next[:6] }),
		spoiled("Next one too long", func(g *api.Game) { g.Next = append(g.Next, nil) }),
		spoiled("no Owner", func(g *api.Game) { g.Owner = nil }),
		spoiled("owner 2", func(g *api.Game) { g.Owner[0] = 2 }),
		spoiled("last owner 2", func(g *api.Game) { g.Owner[6] = 2 }),
		spoiled("owner -1", func(g *api.Game) { g.Owner[3] = -1 }),
		spoiled("greatest owner", func(g *api.Game) { g.Owner[3] = math.MaxInt }),
		spoiled("descending", func(g *api.Game) { g.Next[6] = []int{4, 2} }),
		spoiled("twice", func(g *api.Game) { g.Next[0] = []int{3, 3} }),
		spoiled("one too great", func(g *api.Game) { g.Next[4] = []int{7} }),
		spoiled("greatest", func(g *api.Game) { g.Next[0] = []int{0, math.MaxInt} }),
		spoiled("-1", func(g *api.Game) { g.Next[0] = []int{-1, 1} }),
		spoiled("least", func(g *api.Game) { g.Next[5] = []int{math.MinInt} }),
		{"too many", api.MaxVerts + 1, plain(api.MaxVerts + 1)},
		{"far too many", 3 * api.MaxVerts, plain(3 * api.MaxVerts)},
		{"too many, no Next", api.MaxVerts + 1, api.Game{Owner: make([]int, api.MaxVerts+1)}},
	}
}

// rows are short ones, long ones, and one of each kind for total vertices.
func rows(total int) [][]bool {
	some, all, more := make([]bool, total), make([]bool, total), make([]bool, total+3)
	for v := range more {
		more[v] = true
		if v < total {
			some[v], all[v] = v%3 == 1, true
		}
	}
	return [][]bool{nil, {}, row("x"), row("-x"), make([]bool, total), some, all, more}
}

// P11.1: what is returned for a game that is not valid.
func TestForceWrong(t *testing.T) {
	for _, x := range wrongs() {
		if graph.May(x.g) == api.OK {
			t.Fatal("valid", x.name)
		}
		for _, who := range append(nobody(), api.Env, api.Sys) {
			for i, in := range rows(x.total) {
				if got := pre.Force(x.g, who, in); len(got) != 0 {
					t.Error(x.name, who, i, len(got))
				}
			}
		}
	}
	for _, who := range []int{api.Env, api.Sys} {
		if got := pre.Force(plain(api.MaxVerts), who, nil); len(got) != api.MaxVerts {
			t.Error("as many as there may be", who, len(got))
		}
	}
}

// P11.2: by hand.
func TestRows(t *testing.T) {
	for _, x := range []struct {
		a, b, not, and, or string
		count              int
	}{
		{"-------", "-------", "xxxxxxx", "-------", "-------", 0},
		{"xxxxxxx", "xxxxxxx", "-------", "xxxxxxx", "xxxxxxx", 7},
		{"xxxxxxx", "-------", "-------", "-------", "xxxxxxx", 7},
		{"-------", "xxxxxxx", "xxxxxxx", "-------", "xxxxxxx", 0},
		{"xx--x--", "x-x---x", "--xx-xx", "x------", "xxx-x-x", 3},
		{"------x", "------x", "xxxxxx-", "------x", "------x", 1},
		// What is missing at the end is false.
		{"", "", "xxxxxxx", "-------", "-------", 0},
		{"x-x", "", "-x-xxxx", "-------", "x-x----", 2},
		{"", "-xx", "xxxxxxx", "-------", "-xx----", 0},
		{"x-x", "xxxxx", "-x-xxxx", "x-x----", "xxxxx--", 2},
		{"xxxxxx", "--x---x", "------x", "--x----", "xxxxxxx", 6},
		{"--x---x", "xxxxxx", "xx-xxx-", "--x----", "xxxxxxx", 2},
		// What is beyond the last vertex is ignored.
		{"xxxxxxxx", "xxxxxxxxxx", "-------", "xxxxxxx", "xxxxxxx", 7},
		{"-------x", "-------x", "xxxxxxx", "-------", "-------", 0},
		{"-x----xxx", "x-----x", "x-xxxx-", "------x", "xx----x", 2},
		{"x", "-------xxxx", "-xxxxxx", "-------", "x------", 1},
	} {
		a, b := row(x.a), row(x.b)
		for i, g := range sevens() {
			got := []string{text(pre.Not(g, a)), text(pre.And(g, a, b)), text(pre.Or(g, a, b))}
			if !slices.Equal(got, []string{x.not, x.and, x.or}) || pre.Count(g, a) != x.count {
				t.Error(i, x.a, x.b, got, pre.Count(g, a))
			}
		}
	}
}

// sevens are games with seven vertices, all but the first one not valid.
func sevens() []api.Game {
	list := []api.Game{made()}
	for _, x := range wrongs() {
		if x.total == 7 {
			list = append(list, x.g)
		}
	}
	return list
}

// P11.2: only the number of vertices is used, however many there are, and whatever else is wrong.
func TestRowsWrong(t *testing.T) {
	for _, x := range wrongs() {
		for i, in := range rows(x.total) {
			count := 0
			for v, is := range in {
				if is && v < x.total {
					count++
				}
			}
			not := pre.Not(x.g, in)
			if len(not) != x.total || pre.Count(x.g, not) != x.total-count || pre.Count(x.g, in) != count {
				t.Error("Not or Count", x.name, i, len(not), pre.Count(x.g, in), count)
			}
			and, or := pre.And(x.g, in, in), pre.Or(x.g, in, in)
			if len(and) != x.total || pre.Count(x.g, and) != count || !slices.Equal(and, or) {
				t.Error("And or Or", x.name, i, len(and), len(or))
			}
		}
	}
}

// P11.2: without vertices, there is nothing to combine and nothing to count; Next makes no vertices.
func TestRowsNoVertices(t *testing.T) {
	for _, g := range []api.Game{{}, {Owner: []int{}, Next: [][]int{}}, {Next: [][]int{nil, {0}}}} {
		for _, in := range [][]bool{nil, {}, row("x"), row("-xx")} {
			if len(pre.Not(g, in))+len(pre.And(g, in, in))+len(pre.Or(g, in, in))+pre.Count(g, in) != 0 {
				t.Error(g, in)
			}
		}
	}
}

func has(in []bool, v int) bool { return v < len(in) && in[v] }

// wantForce counts the edges into in and those that lead elsewhere, as the document says it.
func wantForce(g api.Game, who int, in []bool) []bool {
	want := make([]bool, len(g.Owner))
	for v := range want {
		into, elsewhere := 0, 0
		for to := range g.Owner {
			switch edge := slices.Contains(g.Next[v], to); {
			case edge && has(in, to):
				into++
			case edge:
				elsewhere++
			}
		}
		want[v] = g.Owner[v] == who && into > 0 || g.Owner[v] != who && elsewhere == 0
	}
	return want
}

// checkForce asks P11.1 and P11.3 of a game, both players and a row.
func checkForce(t *testing.T, g api.Game, in []bool) {
	t.Helper()
	for _, who := range []int{api.Env, api.Sys} {
		got := pre.Force(g, who, in)
		if !slices.Equal(got, wantForce(g, who, in)) {
			t.Error("Force", g, who, in, got)
		}
		other := pre.Force(g, 1-who, pre.Not(g, in))
		if pre.Count(g, pre.Or(g, got, other)) != len(g.Owner) || pre.Count(g, pre.And(g, got, other)) != 0 {
			t.Error("not exactly one of both", g, who, in, got, other)
		}
		if !slices.Equal(other, pre.Not(g, got)) {
			t.Error("not the complement", g, who, in, got, other)
		}
	}
}

// bits is a row of total bools, the lowest bit first.
func bits(n, total int) []bool {
	list := make([]bool, total)
	for i := range list {
		list[i] = n>>i&1 == 1
	}
	return list
}

// fewGame is the game with this many vertices, owners and edges, each a bit.
func fewGame(total, owners, edges int) api.Game {
	g := plain(total)
	for v := range total {
		g.Owner[v] = owners >> v & 1
		for to := range total {
			if edges>>(v*total+to)&1 == 1 {
				g.Next[v] = append(g.Next[v], to)
			}
		}
	}
	return g
}

// P11.1 and P11.3: each game with up to three vertices, and each row.
func TestEachSmallGame(t *testing.T) {
	for total := range 4 {
		for owners := range 1 << total {
			for edges := range 1 << (total * total) {
				g := fewGame(total, owners, edges)
				for in := range 1 << total {
					checkForce(t, g, bits(in, total))
				}
			}
		}
	}
}

// growGame is valid, with fewer than twelve vertices; spare tells how seldom an edge is.
func growGame(t *testing.T, r *rand.Rand) api.Game {
	g := plain(r.Intn(12))
	spare := 1 + r.Intn(6)
	for from := range g.Owner {
		g.Owner[from] = r.Intn(2)
		for to := range g.Owner {
			if r.Intn(spare) == 0 {
				g.Next[from] = append(g.Next[from], to)
			}
		}
	}
	if graph.May(g) != api.OK {
		t.Fatal("not valid", g)
	}
	return g
}

func growRow(r *rand.Rand, most int) []bool {
	list := make([]bool, r.Intn(most))
	for i := range list {
		list[i] = r.Intn(2) == 0
	}
	return list
}

// P11.1 to P11.3: many games, with rows that are too short or too long among them.
func TestSample(t *testing.T) {
	r := rand.New(rand.NewSource(11))
	for i := range 3000 {
		g := growGame(t, r)
		a, b := growRow(r, 16), growRow(r, 16)
		checkForce(t, g, a)
		not, and, or := pre.Not(g, a), pre.And(g, a, b), pre.Or(g, a, b)
		count := 0
		for v := range g.Owner {
			if not[v] == has(a, v) || and[v] != (has(a, v) && has(b, v)) || or[v] != (has(a, v) || has(b, v)) {
				t.Error("rows", i, a, b, not, and, or)
			}
			if has(a, v) {
				count++
			}
		}
		if len(not) != len(g.Owner) || len(and) != len(g.Owner) || len(or) != len(g.Owner) || pre.Count(g, a) != count {
			t.Error("rows", i, len(g.Owner), a, b, not, and, or, pre.Count(g, a))
		}
		// What can be forced into a part can be forced into the whole.
		for _, who := range []int{api.Env, api.Sys} {
			part, whole := pre.Force(g, who, and), pre.Force(g, who, a)
			if !slices.Equal(pre.And(g, part, whole), part) {
				t.Error("a part", i, g, who, a, b)
			}
		}
	}
}

// The greatest games: as many vertices as there may be, with as many edges.
func TestGreatest(t *testing.T) {
	const total = api.MaxVerts
	all, whole, most := make([]int, total), make([]bool, total), make([]bool, total)
	for v := range all {
		all[v], whole[v], most[v] = v, true, v < total-1
	}
	g := plain(total)
	for v := range g.Next {
		g.Owner[v], g.Next[v] = v%2, all
	}
	last := pre.Not(g, most)
	if pre.Count(g, last) != 1 || !last[total-1] {
		t.Error("the last one")
	}
	for _, who := range []int{api.Env, api.Sys} {
		for i, x := range []struct {
			in   []bool
			want int
		}{{nil, 0}, {last, total / 2}, {most, total / 2}, {whole, total}} {
			got := pre.Force(g, who, x.in)
			if len(got) != total || pre.Count(g, got) != x.want {
				t.Error(who, i, pre.Count(g, got))
			}
		}
		if got := pre.Force(g, who, last); got[who] != true || got[1-who] != false {
			t.Error("of the wrong player", who)
		}
	}
}

// roomy is made with room in each of its lists, and something in that room.
func roomy() (api.Game, []bool, []bool) {
	g := made()
	for v, next := range g.Next {
		g.Next[v] = append(append(make([]int, 0, 9), next...), 6, 6)[:len(next)]
	}
	g.Owner = append(g.Owner, 7, 7)[:7]
	g.Next = append(g.Next, []int{9}, []int{9})[:7]
	return g, row("-x-xxxxx")[:5], row("x-xxxxx")[:2]
}

// R2 and R6: arguments stay as they are, up to what is beyond their length, and what is there is not read.
func TestArguments(t *testing.T) {
	g, a, b := roomy()
	for range 2 {
		got := []string{
			text(pre.Force(g, api.Env, a)), text(pre.Force(g, api.Sys, a)), text(pre.Force(g, 2, a)),
			text(pre.Not(g, a)), text(pre.And(g, a, a)), text(pre.Or(g, a, b)),
		}
		if want := []string{"x--x-x-", "x--xx-x", "", "x-x--xx", "-x-xx--", "xx-xx--"}; !slices.Equal(got, want) || pre.Count(g, a) != 3 {
			t.Error(got, pre.Count(g, a))
		}
	}
	wantFresh(t, g, a, b)
}

// wantFresh holds what roomy made against what it makes anew, with what is beyond the lengths.
func wantFresh(t *testing.T, g api.Game, a, b []bool) {
	t.Helper()
	h, freshA, freshB := roomy()
	if !reflect.DeepEqual(g, h) || !slices.Equal(g.Owner[:9], h.Owner[:9]) || !reflect.DeepEqual(g.Next[:9], h.Next[:9]) {
		t.Error("the game was changed")
	}
	for v := range g.Next {
		if !slices.Equal(g.Next[v][:cap(g.Next[v])], h.Next[v][:cap(h.Next[v])]) {
			t.Error("a row of the game was changed", v)
		}
	}
	if !slices.Equal(a[:8], freshA[:8]) || !slices.Equal(b[:7], freshB[:7]) || len(a) != len(freshA) || len(b) != len(freshB) {
		t.Error("a row was changed")
	}
}

// R2: a result is new memory: what is written into it is nowhere else.
func TestResults(t *testing.T) {
	g, a, b := roomy()
	whole, none := row("xxxxxxx"), row("-------")
	for name, call := range map[string]func() []bool{
		"Force":     func() []bool { return pre.Force(g, api.Env, a) },
		"Force all": func() []bool { return pre.Force(g, api.Sys, whole) },
		"Not":       func() []bool { return pre.Not(g, a) },
		"And":       func() []bool { return pre.And(g, a, b) },
		"And same":  func() []bool { return pre.And(g, whole, whole) },
		"Or":        func() []bool { return pre.Or(g, a, b) },
		"Or same":   func() []bool { return pre.Or(g, none, none) },
	} {
		want := text(call())
		got := call()
		got = got[:cap(got)]
		for v := range got {
			got[v] = !got[v]
		}
		if again := text(call()); again != want {
			t.Error(name, want, again)
		}
		if text(whole) != "xxxxxxx" || text(none) != "-------" {
			t.Error(name, "shares a row")
		}
	}
	wantFresh(t, g, a, b)
}
