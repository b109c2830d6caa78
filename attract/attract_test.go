package attract_test

import (
	"math"
	"math/rand"
	"reflect"
	"slices"
	"strconv"
	"testing"

	"parry/api"
	"parry/attract"
	"parry/graph"
	"parry/pre"
)

// made: 0 Env to 1, 2; 1 Sys to 0, 3, 4; 2 Env to 2, 5; 3 Sys to 6; 4 Sys to 4; 5 Env to 3, 7; 6 Env a dead end; 7 Sys a dead end.
func made() api.Game {
	return api.Game{
		Owner: []int{api.Env, api.Sys, api.Env, api.Sys, api.Sys, api.Env, api.Env, api.Sys},
		Next:  [][]int{{1, 2}, {0, 3, 4}, {2, 5}, {6}, {4}, {3, 7}, nil, {}},
	}
}

// plain has only dead ends of Env.
func plain(total int) api.Game {
	return api.Game{Owner: make([]int, total), Next: make([][]int, total)}
}

// row is a row of bools from a text: x is in it.
func row(s string) []bool {
	var list []bool
	for _, b := range []byte(s) {
		list = append(list, b == 'x')
	}
	return list
}

// text writes a list of numbers of one digit, -1 as a dash.
func text(list []int) string {
	s := ""
	for _, n := range list {
		if n == -1 {
			s += "-"
		} else {
			s += strconv.Itoa(n)
		}
	}
	return s
}

// regionOf is the row of the vertices that have a rank in a text of ranks.
func regionOf(ranks string) []bool {
	var list []bool
	for _, b := range []byte(ranks) {
		list = append(list, b != '-')
	}
	return list
}

// check holds Ranks, Region and Ways against texts of ranks and ways.
func check(t *testing.T, g api.Game, who int, in []bool, ranks, ways string) {
	t.Helper()
	if got := text(attract.Ranks(g, who, in)); got != ranks {
		t.Error("Ranks", who, in, got, ranks)
	}
	if got := attract.Region(g, who, in); !slices.Equal(got, regionOf(ranks)) {
		t.Error("Region", who, in, got, ranks)
	}
	if got := text(attract.Ways(g, who, in)); got != ways {
		t.Error("Ways", who, in, got, ways)
	}
}

// empty asks whether all results are empty.
func empty(g api.Game, who int, in []bool) bool {
	return len(attract.Ranks(g, who, in))+len(attract.Region(g, who, in))+len(attract.Ways(g, who, in)) == 0
}

// P12.1 and P12.2: by hand.
func TestMade(t *testing.T) {
	for _, x := range []struct {
		who             int
		in, ranks, ways string
	}{
		// Into nothing: to the dead ends of the other player.
		{api.Env, "--------", "4-3--2-1", "2-5--7--"},
		{api.Sys, "--------", "-3-2--1-", "-3-6----"},
		// From everywhere, nothing is left to do.
		{api.Env, "xxxxxxxx", "00000000", "--------"},
		{api.Sys, "xxxxxxxx", "00000000", "--------"},
		{api.Env, "x-------", "0-3--2-1", "--5--7--"},
		{api.Env, "-x------", "103--2-1", "1-5--7--"},
		{api.Env, "--x-----", "1-0--2-1", "2----7--"},
		{api.Env, "---x----", "3-20-1-1", "2-5--3--"},
		{api.Env, "----x---", "4-3-02-1", "2-5--7--"},
		{api.Sys, "x-------", "01-2--1-", "-0-6----"},
		{api.Sys, "----x---", "-1-20-1-", "-4-6----"},
		// The other player counts by the greatest rank.
		{api.Env, "---xx---", "342001-1", "2-5--3--"},
		{api.Sys, "--x-----", "4302--1-", "-3-6----"},
		// It needs not leave its loop.
		{api.Sys, "-----x--", "-3-2-01-", "-3-6----"},
		{api.Sys, "xx-xxxxx", "00-00000", "--------"},
		// And the player has no other edge than its loop.
		{api.Env, "xxxx-xxx", "0000-000", "--------"},
		// A dead end that is in the row has the rank 0, whoever's it is.
		{api.Env, "------x-", "4-31-201", "2-5--3--"},
		{api.Env, "-------x", "3-2--1-0", "2-5--7--"},
		{api.Env, "------xx", "3-21-100", "2-5--7--"},
		{api.Sys, "-------x", "-3-2-310", "-3-6----"},
		{api.Sys, "------xx", "-2-1-200", "-3-6----"},
		// The lowest successor of those with a lesser rank, not of all.
		{api.Env, "-xx-----", "100--2-1", "1----7--"},
		{api.Sys, "x--x----", "01-0--1-", "-0------"},
		{api.Sys, "---xx---", "-1-00-1-", "-3------"},
	} {
		check(t, made(), x.who, row(x.in), x.ranks, x.ways)
	}
}

// P12.1 and P12.2: one dead end: the rank is 0 in the row, else 1 for the other player and none for its owner.
func TestOneDeadEnd(t *testing.T) {
	for _, next := range [][][]int{{nil}, {{}}} {
		for _, owner := range []int{api.Env, api.Sys} {
			g := api.Game{Owner: []int{owner}, Next: next}
			check(t, g, owner, row("-"), "-", "-")
			check(t, g, 1-owner, row("-"), "1", "-")
			check(t, g, owner, row("x"), "0", "-")
			check(t, g, 1-owner, row("x"), "0", "-")
		}
	}
}

// P12.1 and P12.2: the ways to a dead end: 3 to 2 to 1 to 0, the dead end, and 4 to both 0 and itself.
func TestWaysToDeadEnd(t *testing.T) {
	next := [][]int{nil, {0}, {1}, {2}, {0, 4}}
	for _, loser := range []int{api.Env, api.Sys} {
		winner := 1 - loser
		// Whoever owns the vertices of a single edge: the winner needs no choice there.
		for _, x := range []struct {
			owner       []int
			ranks, ways string
		}{
			{[]int{loser, loser, loser, loser, loser}, "1234-", "-----"},
			{[]int{loser, winner, winner, winner, winner}, "12342", "-0120"},
			{[]int{loser, winner, loser, winner, loser}, "1234-", "-0-2-"},
		} {
			g := api.Game{Owner: x.owner, Next: next}
			check(t, g, winner, nil, x.ranks, x.ways)
			check(t, g, loser, nil, "-----", "-----")
		}
		// Of its own accord nobody gets anywhere from its own dead end, but the row may hold it.
		g := api.Game{Owner: []int{loser, loser, winner, loser, winner}, Next: next}
		check(t, g, loser, row("x"), "0123-", "-0-2-")
		check(t, g, loser, row("--x"), "--01-", "---2-")
		check(t, g, winner, row("--x"), "12012", "----0")
	}
}

// P12.1 and P12.2: a dead end of each player, and each player's choice of both of them, or of one.
func TestTwoDeadEnds(t *testing.T) {
	g := api.Game{Owner: []int{0, 1, 0, 1, 0, 1}, Next: [][]int{nil, nil, {0, 1}, {0, 1}, {0}, {1}}}
	check(t, g, api.Env, nil, "-12--2", "--1---")
	check(t, g, api.Sys, nil, "1--22-", "---0--")
	check(t, g, api.Env, row("x"), "011212", "--0-0-")
	check(t, g, api.Sys, row("-x"), "102121", "---1-1")
}

// nobody lists who is neither Env nor Sys.
func nobody() []int {
	return []int{2, -1, 3, -2, 1 << 32, 1<<32 + 1, 1 << 8, -1 << 32, math.MaxInt, math.MinInt}
}

// P12.1 and P12.2: no vertices, and no such player.
func TestNothing(t *testing.T) {
	for _, in := range [][]bool{nil, {}, row("x"), row("--------"), row("xxxxxxxx"), row("xxxxxxxxxx")} {
		for _, who := range []int{api.Env, api.Sys} {
			for _, g := range []api.Game{{}, {Owner: []int{}, Next: [][]int{}}} {
				if !empty(g, who, in) {
					t.Error("no vertices", who, in)
				}
			}
		}
		for _, who := range nobody() {
			for _, g := range []api.Game{made(), {}, plain(1), plain(api.MaxVerts)} {
				if !empty(g, who, in) {
					t.Error("nobody", who, in)
				}
			}
		}
	}
}

// P12.1 and P12.2: what is missing at the end is false, and what is beyond the last vertex is ignored.
func TestRows(t *testing.T) {
	for short, whole := range map[string]string{
		"":                 "--------",
		"-":                "--------",
		"x":                "x-------",
		"--x":              "--x-----",
		"-x-xx":            "-x-xx---",
		"------x":          "------x-",
		"-------x":         "-------x",
		"--------x":        "--------",
		"--------xxxxxxxx": "--------",
		"---xx---x":        "---xx---",
		"xxxxxxxx-":        "xxxxxxxx",
		"xxxxxxxxxxxxxxxx": "xxxxxxxx",
	} {
		for _, who := range []int{api.Env, api.Sys} {
			ranks, ways := attract.Ranks(made(), who, row(whole)), attract.Ways(made(), who, row(whole))
			check(t, made(), who, row(short), text(ranks), text(ways))
		}
	}
	long := make([]bool, 5*api.MaxVerts)
	for v := range long {
		long[v] = v >= 8
	}
	check(t, made(), api.Sys, long, "-3-2--1-", "-3-6----")
}

// spoiled is made with one thing that is wrong.
func spoiled(change func(g *api.Game)) api.Game {
	g := made()
	change(&g)
	return g
}

func wrongs() map[string]api.Game {
	return map[string]api.Game{
		"no Next":           spoiled(func(g *api.Game) { g.Next = nil }),
		"Next too short":    spoiled(func(g *api.Game) { g.Next = g.Next[:7] }),
		"Next too long":     spoiled(func(g *api.Game) { g.Next = append(g.Next, nil) }),
		"no Owner":          spoiled(func(g *api.Game) { g.Owner = nil }),
		"owner 2":           spoiled(func(g *api.Game) { g.Owner[0] = 2 }),
		"last owner 2":      spoiled(func(g *api.Game) { g.Owner[7] = 2 }),
		"owner -1":          spoiled(func(g *api.Game) { g.Owner[3] = -1 }),
		"greatest owner":    spoiled(func(g *api.Game) { g.Owner[3] = math.MaxInt }),
		"descending":        spoiled(func(g *api.Game) { g.Next[2] = []int{5, 2} }),
		"twice":             spoiled(func(g *api.Game) { g.Next[0] = []int{2, 2} }),
		"one too great":     spoiled(func(g *api.Game) { g.Next[4] = []int{8} }),
		"greatest":          spoiled(func(g *api.Game) { g.Next[0] = []int{0, math.MaxInt} }),
		"-1":                spoiled(func(g *api.Game) { g.Next[0] = []int{-1, 1} }),
		"least":             spoiled(func(g *api.Game) { g.Next[6] = []int{math.MinInt} }),
		"too many":          plain(api.MaxVerts + 1),
		"far too many":      plain(3 * api.MaxVerts),
		"too many, no Next": {Owner: make([]int, api.MaxVerts+1)},
	}
}

// P12.1 and P12.2: what is returned for a game that is not valid.
func TestWrong(t *testing.T) {
	for name, g := range wrongs() {
		if graph.May(g) == api.OK {
			t.Fatal("valid", name)
		}
		for _, who := range append(nobody(), api.Env, api.Sys) {
			for i, in := range [][]bool{nil, {}, row("x"), row("--------"), row("xxxxxxxx"), make([]bool, 4*api.MaxVerts)} {
				if !empty(g, who, in) {
					t.Error(name, who, i)
				}
			}
		}
	}
}

func has(in []bool, v int) bool { return v < len(in) && in[v] }

// wantRanks takes k after k, and asks pre.Force of the vertices with a lesser rank, as the document says it.
func wantRanks(g api.Game, who int, in []bool) []int {
	ranks, lesser := make([]int, len(g.Owner)), make([]bool, len(g.Owner))
	for v := range ranks {
		lesser[v] = has(in, v)
		if !lesser[v] {
			ranks[v] = -1
		}
	}
	for k := 1; k <= len(g.Owner); k++ {
		for v, forced := range pre.Force(g, who, lesser) {
			if forced && ranks[v] < 0 {
				ranks[v] = k
			}
		}
		for v, rank := range ranks {
			lesser[v] = rank >= 0
		}
	}
	return ranks
}

// wantWays asks of each pair of vertices.
func wantWays(g api.Game, who int, ranks []int) []int {
	ways := make([]int, len(ranks))
	for v := range ways {
		ways[v] = -1
		for to := len(ranks) - 1; to >= 0 && g.Owner[v] == who; to-- {
			if slices.Contains(g.Next[v], to) && 0 <= ranks[to] && ranks[to] < ranks[v] {
				ways[v] = to
			}
		}
	}
	return ways
}

// checkGame asks P12.1 to P12.3 of a game, both players and a row.
func checkGame(t *testing.T, g api.Game, in []bool) {
	t.Helper()
	for _, who := range []int{api.Env, api.Sys} {
		ranks, region, ways := attract.Ranks(g, who, in), attract.Region(g, who, in), attract.Ways(g, who, in)
		want := wantRanks(g, who, in)
		if !slices.Equal(ranks, want) {
			t.Error("Ranks", g, who, in, ranks, want)
		}
		if !slices.Equal(ways, wantWays(g, who, want)) {
			t.Error("Ways", g, who, in, ways)
		}
		if len(region) != len(want) {
			t.Fatal("Region", g, who, in, region)
		}
		for v, rank := range want {
			if region[v] != (rank >= 0) {
				t.Error("Region", g, who, in, region)
			}
		}
		checkInside(t, g, who, in, ranks, ways)
		checkOutside(t, g, who, in, region)
	}
}

// checkInside lets the player follow the ways and the other one go anywhere: wherever the play is after as many steps as the rank, it went by the row or ended at a dead end of the other player.
func checkInside(t *testing.T, g api.Game, who int, in []bool, ranks, ways []int) {
	t.Helper()
	followed := graph.Follow(g, who, ways)
	for v, rank := range ranks {
		if rank < 0 {
			continue
		}
		at := []int{v}
		for range rank {
			at = stepped(t, followed, who, in, at)
		}
		for _, last := range at {
			if !has(in, last) {
				t.Error("not there in time", g, who, in, v, last)
			}
		}
	}
}

// stepped returns where the plays are that go on from the vertices at: those in the row are there already, those at a dead end of the other player are won.
func stepped(t *testing.T, g api.Game, who int, in []bool, at []int) []int {
	t.Helper()
	var next []int
	for _, from := range at {
		if has(in, from) {
			continue
		}
		if len(g.Next[from]) == 0 && g.Owner[from] == who {
			t.Error("no way on", g, who, in, from)
		}
		next = append(next, g.Next[from]...)
	}
	slices.Sort(next)
	return slices.Compact(next)
}

// checkOutside lets the other player stay out and the player go anywhere: no play gets into the region, and none ends at a dead end of the other player.
func checkOutside(t *testing.T, g api.Game, who int, in, region []bool) {
	t.Helper()
	out := make([]int, len(region))
	for v := range out {
		out[v] = slices.IndexFunc(g.Next[v], func(to int) bool { return !region[to] })
		if out[v] >= 0 {
			out[v] = g.Next[v][out[v]]
		}
	}
	kept := graph.Follow(g, 1-who, out)
	outside := pre.Not(g, region)
	reached := graph.Reach(kept, outside)
	if !slices.Equal(reached, outside) {
		t.Error("not kept out", g, who, in, region)
	}
	for v, dead := range graph.Dead(kept, 1-who) {
		if dead && outside[v] {
			t.Error("ends outside", g, who, in, v)
		}
	}
	for v := range region {
		if has(in, v) && !region[v] {
			t.Error("the set is outside", g, who, in, v)
		}
	}
}

// bits is a row of total bools, the lowest bit first.
func bits(n, total int) []bool {
	list := make([]bool, total)
	for i := range list {
		list[i] = n>>i&1 == 1
	}
	return list
}

// fewGame is the game with this many vertices, owners and edges, each a bit.
func fewGame(total, owners, edges int) api.Game {
	g := plain(total)
	for v := range total {
		g.Owner[v] = owners >> v & 1
		for to := range total {
			if edges>>(v*total+to)&1 == 1 {
				g.Next[v] = append(g.Next[v], to)
			}
		}
	}
	return g
}

// P12.1 to P12.3: each game with up to three vertices, and each row.
func TestEachSmallGame(t *testing.T) {
	for total := range 4 {
		for owners := range 1 << total {
			for edges := range 1 << (total * total) {
				g := fewGame(total, owners, edges)
				for in := range 1 << total {
					checkGame(t, g, bits(in, total))
				}
			}
		}
	}
}

// growGame is valid, with fewer than most vertices; spare tells how seldom an edge is.
func growGame(t *testing.T, r *rand.Rand, most, spare int) api.Game {
	g := plain(r.Intn(most))
	for from := range g.Owner {
		g.Owner[from] = r.Intn(2)
		for to := range g.Owner {
			if r.Intn(spare) == 0 {
				g.Next[from] = append(g.Next[from], to)
			}
		}
	}
	if graph.May(g) != api.OK {
		t.Fatal("not valid", g)
	}
	return g
}

func growRow(r *rand.Rand, most, spare int) []bool {
	list := make([]bool, r.Intn(most))
	for i := range list {
		list[i] = r.Intn(spare) == 0
	}
	return list
}

// P12.1 to P12.3: many games, with rows that are too short or too long among them.
func TestSample(t *testing.T) {
	r := rand.New(rand.NewSource(12))
	for range 3000 {
		checkGame(t, growGame(t, r, 12, 1+r.Intn(8)), growRow(r, 16, 1+r.Intn(8)))
	}
	// Greater ones, with few edges: the ways are longer.
	for range 200 {
		checkGame(t, growGame(t, r, 60, 30), growRow(r, 70, 30))
	}
}

// P12.1: the region of a part is a part of the region, and the region of the region is itself.
func TestRegionOfRegion(t *testing.T) {
	r := rand.New(rand.NewSource(123))
	for i := range 1000 {
		g := growGame(t, r, 12, 1+r.Intn(6))
		a, b := growRow(r, 14, 3), growRow(r, 14, 2)
		part := pre.And(g, a, b)
		for _, who := range []int{api.Env, api.Sys} {
			region := attract.Region(g, who, a)
			if less := attract.Region(g, who, part); !slices.Equal(pre.And(g, less, region), less) {
				t.Error("a part", i, g, who, a, b)
			}
			if again := attract.Region(g, who, region); !slices.Equal(again, region) {
				t.Error("again", i, g, who, a)
			}
		}
	}
}

// P12.1 to P12.3: a chain of as many vertices as there may be, whose both players have vertices: each rank there can be.
func TestLongChain(t *testing.T) {
	const total = api.MaxVerts
	up, down := plain(total), plain(total)
	for v := range total {
		up.Owner[v], down.Owner[v] = v/3%2, v/3%2
		if v+1 < total {
			up.Next[v] = []int{v + 1}
		}
		if v > 0 {
			down.Next[v] = []int{v - 1}
		}
	}
	first, last := []bool{true}, make([]bool, total)
	last[total-1] = true
	for _, who := range []int{api.Env, api.Sys} {
		upRanks, downRanks := attract.Ranks(up, who, last), attract.Ranks(down, who, first)
		upWays, downWays := attract.Ways(up, who, last), attract.Ways(down, who, first)
		for v := range total {
			if upRanks[v] != total-1-v || downRanks[v] != v {
				t.Fatal("Ranks", who, v, upRanks[v], downRanks[v])
			}
			if own := up.Owner[v] == who; own && v+1 < total && upWays[v] != v+1 || !own && upWays[v] != -1 {
				t.Fatal("Ways up", who, v, upWays[v])
			}
			if own := down.Owner[v] == who; own && downWays[v] != v-1 || !own && downWays[v] != -1 {
				t.Fatal("Ways down", who, v, downWays[v])
			}
		}
		if pre.Count(up, attract.Region(up, who, last)) != total || pre.Count(down, attract.Region(down, who, first)) != total {
			t.Error("Region", who)
		}
	}
	// Without a row, the dead end decides: that of up, the last vertex, is one of Sys, that of down, the first one, is one of Env.
	for who, g := range []api.Game{api.Env: up, api.Sys: down} {
		if got := attract.Ranks(g, who, nil); slices.Max(got) != total || slices.Min(got) != 1 {
			t.Error("to the dead end", who, slices.Max(got), slices.Min(got))
		}
		if pre.Count(g, attract.Region(g, 1-who, nil)) != 0 {
			t.Error("to the own dead end", who)
		}
	}
}

// P12.1 and P12.2: as many vertices as there may be, each with an edge to each: Env's go to the first vertex of the row, Sys's can stay out of it.
func TestEachEdge(t *testing.T) {
	const total = api.MaxVerts
	g, all := plain(total), make([]int, total)
	for v := range all {
		all[v] = v
	}
	for v := range total {
		g.Owner[v], g.Next[v] = v%2, all
	}
	in := make([]bool, total)
	in[7], in[total-1] = true, true
	ranks, ways, region := attract.Ranks(g, api.Env, in), attract.Ways(g, api.Env, in), attract.Region(g, api.Env, in)
	for v := range total {
		rank, way := 1, 7
		switch {
		case in[v]:
			rank, way = 0, -1
		case v%2 == api.Sys:
			rank, way = -1, -1
		}
		if ranks[v] != rank || ways[v] != way || region[v] != (rank >= 0) {
			t.Fatal(v, ranks[v], ways[v], region[v])
		}
	}
	// With all in the row but one of Sys: Sys goes into the row from there, but Env can't make it leave its loop.
	for v := range total {
		in[v] = v != 1
	}
	for who, want := range []int{api.Env: -1, api.Sys: 1} {
		if got := attract.Ranks(g, who, in); got[1] != want || pre.Count(g, in) != total-1 {
			t.Error("all but one", who, got[1])
		}
	}
}

// P12.1 and P12.2: from each vertex down by one or by two: the player takes the shorter way, the other one the longer.
func TestLadder(t *testing.T) {
	const total = api.MaxVerts
	g := plain(total)
	for v := 1; v < total; v++ {
		g.Owner[v] = v % 2
		g.Next[v] = []int{v - 1}
		if v > 1 {
			g.Next[v] = []int{v - 2, v - 1}
		}
	}
	ranks := attract.Ranks(g, api.Sys, []bool{true})
	want := []int{0, 1}
	for v := 2; v < total; v++ {
		if g.Owner[v] == api.Sys {
			want = append(want, 1+min(want[v-1], want[v-2]))
		} else {
			want = append(want, 1+max(want[v-1], want[v-2]))
		}
	}
	if !slices.Equal(ranks, want) {
		t.Error("Ranks", ranks, want)
	}
	if !slices.Equal(attract.Ways(g, api.Sys, []bool{true}), wantWays(g, api.Sys, want)) {
		t.Error("Ways")
	}
}

// roomy is made with room in each of its lists, and something in that room.
func roomy() (api.Game, []bool) {
	g := made()
	for v, next := range g.Next {
		g.Next[v] = append(append(make([]int, 0, 9), next...), 7, 7)[:len(next)]
	}
	g.Owner = append(g.Owner, 7, 7)[:8]
	g.Next = append(g.Next, []int{9}, []int{9})[:8]
	return g, row("---xxxxxxx")[:5]
}

// wantFresh holds what roomy made against what it makes anew, with what is beyond the lengths.
func wantFresh(t *testing.T, g api.Game, in []bool) {
	t.Helper()
	h, fresh := roomy()
	if !reflect.DeepEqual(g, h) || !slices.Equal(g.Owner[:10], h.Owner[:10]) || !reflect.DeepEqual(g.Next[:10], h.Next[:10]) {
		t.Error("the game was changed")
	}
	for v := range g.Next {
		if !slices.Equal(g.Next[v][:cap(g.Next[v])], h.Next[v][:cap(h.Next[v])]) {
			t.Error("a row of the game was changed", v)
		}
	}
	if len(in) != len(fresh) || !slices.Equal(in[:10], fresh[:10]) {
		t.Error("the row was changed")
	}
}

// R2 and R6: arguments stay as they are, up to what is beyond their length, and what is there is not read.
func TestArguments(t *testing.T) {
	g, in := roomy()
	for range 2 {
		check(t, g, api.Env, in, "342001-1", "2-5--3--")
		check(t, g, api.Sys, in, "-1-00-1-", "-3------")
		if !empty(g, 2, in) {
			t.Error("nobody")
		}
	}
	wantFresh(t, g, in)
}

// R2: a result is new memory: what is written into it is nowhere else.
func TestResults(t *testing.T) {
	g, in := roomy()
	for _, who := range []int{api.Env, api.Sys} {
		ranks, region, ways := attract.Ranks(g, who, in), attract.Region(g, who, in), attract.Ways(g, who, in)
		wantRanks, wantWays := text(ranks), text(ways)
		for _, list := range [][]int{ranks[:cap(ranks)], ways[:cap(ways)]} {
			for i := range list {
				list[i] = -7
			}
		}
		region = region[:cap(region)]
		for i := range region {
			region[i] = !region[i]
		}
		check(t, g, who, in, wantRanks, wantWays)
	}
	wantFresh(t, g, in)
}
