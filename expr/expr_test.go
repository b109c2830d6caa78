package expr_test

import (
	"math"
	"math/rand"
	"slices"
	"testing"

	"parry/api"
	"parry/expr"
)

func leaf(op, n int) api.Expr { return api.Expr{Op: op, N: n} }

func node(op int, kids ...api.Expr) api.Expr { return api.Expr{Op: op, Kids: kids} }

func num(n int) api.Expr { return leaf(api.ENum, n) }

// nots is a chain of ENot above a number, with this depth.
func nots(depth int) api.Expr {
	e := num(7)
	for range depth - 1 {
		e = node(api.ENot, e)
	}
	return e
}

// level is a full tree of EAnd with this depth.
func level(depth int) api.Expr {
	e := num(1)
	for range depth - 1 {
		e = node(api.EAnd, e, e)
	}
	return e
}

// ring is an expression that holds itself width times.
func ring(width int) api.Expr {
	kids := make([]api.Expr, width)
	for i := range kids {
		kids[i] = api.Expr{Op: api.EAnd, Kids: kids}
	}
	return kids[0]
}

// full is valid, and has exactly 60 nodes: a tree of 31 and one of 28 below an EAnd.
func full() api.Expr {
	return node(api.EAnd, level(5), node(api.EAdd, level(4), node(api.ENot, node(api.EAdd, level(3), level(2)))))
}

// size counts without a bound.
func size(e api.Expr) int {
	n := 1
	for _, kid := range e.Kids {
		n += size(kid)
	}
	return n
}

func depth(e api.Expr) int {
	d := 0
	for _, kid := range e.Kids {
		d = max(d, depth(kid))
	}
	return d + 1
}

// cut leaves the nodes down to this depth.
func cut(e api.Expr, deep int) api.Expr {
	r := leaf(e.Op, e.N)
	if deep > 1 {
		for _, kid := range e.Kids {
			r.Kids = append(r.Kids, cut(kid, deep-1))
		}
	}
	return r
}

func arity(op int) int {
	if op < 1 || op > 15 {
		return -1
	}
	return []int{0, 0, 0, 0, 1, 2, 2, 2, 2, 2, 2, 2, 2, 2, 3}[op-1]
}

func wellFormed(e api.Expr) bool {
	low, high := 0, 0
	switch e.Op {
	case api.ENum:
		low, high = -1000, 1000
	case api.EBool:
		high = 1
	case api.EVar, api.ENext:
		high = 5
	}
	ok := len(e.Kids) == arity(e.Op) && low <= e.N && e.N <= high
	for _, kid := range e.Kids {
		ok = ok && wellFormed(kid)
	}
	return ok
}

func wantMay(e api.Expr) api.Errno {
	switch {
	case size(e) > 60 || depth(e) > 12:
		return api.ErrFull
	case !wellFormed(e):
		return api.ErrArg
	}
	return api.OK
}

func wantReads(e api.Expr, op int) []int {
	var r []int
	if e.Op == op {
		r = append(r, e.N)
	}
	for _, kid := range e.Kids {
		r = append(r, wantReads(kid, op)...)
	}
	slices.Sort(r)
	return slices.Compact(r)
}

// grow makes an expression of about this depth that is valid but where flaw is hit.
func grow(r *rand.Rand, deep, flaw int) api.Expr {
	op := 1 + r.Intn(4)
	if deep > 1 && r.Intn(5) > 0 {
		op = 5 + r.Intn(11)
	}
	e := api.Expr{Op: op}
	switch op {
	case api.ENum:
		e.N = r.Intn(2001) - 1000
	case api.EBool:
		e.N = r.Intn(2)
	case api.EVar, api.ENext:
		e.N = r.Intn(6)
	}
	for range arity(op) {
		e.Kids = append(e.Kids, grow(r, deep-1, flaw))
	}
	if flaw > 0 && r.Intn(flaw) == 0 {
		switch r.Intn(4) {
		case 0:
			e.Op = r.Intn(19) - 2
		case 1:
			e.N += r.Intn(5) - 2
		case 2:
			e.Kids = append(e.Kids, num(0))
		case 3:
			if len(e.Kids) > 0 {
				e.Kids = e.Kids[1:]
			}
		}
	}
	return e
}

func sample() []api.Expr {
	r := rand.New(rand.NewSource(2))
	var all []api.Expr
	for i := range 6000 {
		all = append(all, grow(r, 1+i%14, []int{0, 8, 40}[i%3]))
	}
	return all
}

// P2.1
func TestKids(t *testing.T) {
	for op := -3; op < 40; op++ {
		if got := expr.Kids(op); got != arity(op) {
			t.Errorf("Kids of %d: %d", op, got)
		}
	}
	for _, op := range []int{math.MinInt, math.MaxInt, 1 << 32, 1<<32 + 1} {
		if got := expr.Kids(op); got != -1 {
			t.Errorf("Kids of %d: %d", op, got)
		}
	}
}

// P2.1
func TestNodes(t *testing.T) {
	wide := func(n int) api.Expr { return node(api.EAnd, slices.Repeat([]api.Expr{num(1)}, n)...) }
	bottom := func(n int) api.Expr {
		e := wide(n)
		for range 10 {
			e = node(api.ENot, e)
		}
		return e
	}
	for i, x := range []struct {
		e    api.Expr
		want int
	}{
		{api.Expr{}, 1},
		{node(api.EAdd, num(1), num(2)), 3},
		{leaf(-5, 99), 1},
		{node(99, num(1)), 2},
		{level(5), 31}, {level(6), 61}, {level(7), 61}, {level(40), 61},
		{full(), 60}, {node(api.ENot, full()), 61},
		{wide(58), 59}, {wide(59), 60}, {wide(60), 61}, {wide(61), 61}, {wide(100000), 61},
		{nots(11), 11}, {nots(12), 12}, {nots(13), 12}, {nots(60), 12}, {nots(1 << 16), 12},
		{bottom(1), 12}, {bottom(49), 60}, {bottom(50), 61},
		{node(api.ENot, bottom(1)), 12}, {node(api.ENot, bottom(1000)), 12},
		{ring(1), 12}, {ring(2), 61}, {ring(1000), 61},
	} {
		if got := expr.Nodes(x.e); got != x.want {
			t.Errorf("%d: %d nodes, want %d", i, got, x.want)
		}
	}
}

// P2.1
func TestNodesOfSample(t *testing.T) {
	for i, e := range sample() {
		if got, want := expr.Nodes(e), min(size(cut(e, 12)), 61); got != want {
			t.Fatalf("%d: %d nodes, want %d", i, got, want)
		}
	}
}

// P2.2
func TestMayNumbers(t *testing.T) {
	numbers := []int{math.MinInt, -1001, -1000, -999, -2, -1, 0, 1, 2, 4, 5, 6, 7, 999, 1000, 1001, math.MaxInt, 1 << 32}
	for op := 1; op <= 15; op++ {
		for _, n := range numbers {
			e := api.Expr{Op: op, N: n, Kids: slices.Repeat([]api.Expr{num(0)}, arity(op))}
			for _, x := range []api.Expr{e, node(api.EAnd, num(0), e), node(api.EIf, e, num(0), num(0))} {
				if got := expr.May(x); got != wantMay(x) {
					t.Errorf("operation %d with %d: %d", op, n, got)
				}
			}
		}
	}
}

// P2.2
func TestMayKids(t *testing.T) {
	for op := -1; op <= 17; op++ {
		for kids := range 5 {
			e := node(op, slices.Repeat([]api.Expr{num(0)}, kids)...)
			want := api.ErrArg
			if kids == arity(op) {
				want = api.OK
			}
			if got := expr.May(e); got != want {
				t.Errorf("operation %d with %d children: %d", op, kids, got)
			}
			if got := expr.May(node(api.ENot, e)); got != want {
				t.Errorf("operation %d with %d children, one level below: %d", op, kids, got)
			}
		}
	}
}

// P2.2: what does not fit is said ahead of what is wrong.
func TestMayFull(t *testing.T) {
	for i, x := range []struct {
		e    api.Expr
		want api.Errno
	}{
		{nots(12), api.OK}, {nots(13), api.ErrFull}, {nots(1 << 16), api.ErrFull},
		{level(5), api.OK}, {full(), api.OK}, {level(6), api.ErrFull}, {level(40), api.ErrFull},
		{node(99, num(5000), level(6)), api.ErrFull},
		{node(99, num(5000), nots(12)), api.ErrFull},
		{node(99, num(5000), nots(11)), api.ErrArg},
		{node(99, nots(12), num(5000)), api.ErrFull},
		{node(api.EIf, level(5), level(4), node(api.EAnd, level(3), leaf(api.EVar, 5))), api.OK},
		{node(api.EAnd, full(), num(1)), api.ErrFull},
		{ring(1), api.ErrFull}, {ring(2), api.ErrFull}, {ring(1000), api.ErrFull},
	} {
		if got := expr.May(x.e); got != x.want {
			t.Errorf("%d: %d, want %d", i, got, x.want)
		}
	}
}

// P2.2
func TestMayOfSample(t *testing.T) {
	var met [8]int
	for i, e := range sample() {
		want := wantMay(e)
		met[want]++
		if got := expr.May(e); got != want {
			t.Fatalf("%d: %d, want %d", i, got, want)
		}
	}
	if met[api.OK] < 500 || met[api.ErrArg] < 500 || met[api.ErrFull] < 500 {
		t.Error("the sample is lopsided:", met)
	}
}

// spoil returns e with one field of the node at this place, counted in order, changed in each possible way.
func spoil(e api.Expr, at int) []api.Expr {
	if at == 0 {
		op, n, more := e, e, e
		op.Op++
		n.N++
		more.Kids = append(slices.Clone(e.Kids), num(0))
		all := []api.Expr{op, n, more}
		if len(e.Kids) > 0 {
			all = append(all, api.Expr{Op: e.Op, N: e.N, Kids: e.Kids[:len(e.Kids)-1]})
		}
		return all
	}
	at--
	for i, kid := range e.Kids {
		if at >= size(kid) {
			at -= size(kid)
			continue
		}
		var all []api.Expr
		for _, x := range spoil(kid, at) {
			r := api.Expr{Op: e.Op, N: e.N, Kids: slices.Clone(e.Kids)}
			r.Kids[i] = x
			all = append(all, r)
		}
		return all
	}
	return nil
}

// P2.2
func TestSame(t *testing.T) {
	e := node(api.EIf, node(99, leaf(-4, 7)), node(api.EAdd, num(1), leaf(api.EVar, 3)), node(api.ENot, nots(4)))
	if !expr.Same(e, cut(e, 12)) {
		t.Error("an expression and its copy")
	}
	for at := range size(e) {
		for i, x := range spoil(e, at) {
			if expr.Same(e, x) || expr.Same(x, e) {
				t.Errorf("change %d of node %d", i, at)
			}
		}
	}
	if !expr.Same(leaf(3, 3), api.Expr{Op: 3, N: 3, Kids: []api.Expr{}}) {
		t.Error("no list and an empty list")
	}
	if expr.Same(node(api.EAnd, num(1), num(2)), node(api.EAnd, num(2), num(1))) {
		t.Error("children in another order")
	}
}

// P2.2: what does not fit is equal to nothing, not even to itself.
func TestSameFull(t *testing.T) {
	for i, x := range []struct {
		e    api.Expr
		want bool
	}{
		{api.Expr{}, true}, {full(), true}, {nots(12), true},
		{level(6), false}, {level(40), false}, {nots(13), false}, {nots(1 << 16), false},
		{node(api.ENot, full()), false}, {ring(1), false}, {ring(2), false}, {ring(100), false},
	} {
		if got := expr.Same(x.e, x.e); got != x.want {
			t.Errorf("%d: %v", i, got)
		}
	}
	if expr.Same(nots(12), nots(13)) || expr.Same(nots(13), nots(12)) || expr.Same(ring(1), nots(12)) {
		t.Error("equal but for what is too deep")
	}
}

// P2.2
func TestReads(t *testing.T) {
	v, next := func(n int) api.Expr { return leaf(api.EVar, n) }, func(n int) api.Expr { return leaf(api.ENext, n) }
	mixed := node(api.EIf, node(api.ELess, v(5), next(0)), node(api.EAdd, v(0), num(3)), node(api.ESub, v(5), node(api.EMul, next(4), next(0))))
	for i, x := range []struct {
		e         api.Expr
		now, then []int
	}{
		{num(3), nil, nil},
		{leaf(api.EBool, 1), nil, nil},
		{v(2), []int{2}, nil},
		{next(2), nil, []int{2}},
		{mixed, []int{0, 5}, []int{0, 4}},
		{node(api.EAnd, v(5), node(api.EAnd, v(4), node(api.EAnd, v(3), node(api.EAnd, v(2), node(api.EAnd, v(1), v(0)))))), []int{0, 1, 2, 3, 4, 5}, nil},
		{v(6), nil, nil},
		{next(-1), nil, nil},
		{node(api.EAdd, v(1), num(1001)), nil, nil},
		{node(api.EAdd, v(1)), nil, nil},
		{node(api.EAnd, v(1), nots(12)), nil, nil},
		{node(api.EAnd, v(1), level(6)), nil, nil},
		{ring(2), nil, nil},
	} {
		if got := expr.Reads(x.e, false); !slices.Equal(got, x.now) {
			t.Errorf("%d: reads %v, want %v", i, got, x.now)
		}
		if got := expr.Reads(x.e, true); !slices.Equal(got, x.then) {
			t.Errorf("%d: reads next %v, want %v", i, got, x.then)
		}
	}
}

// P2.2
func TestReadsOfSample(t *testing.T) {
	for i, e := range sample() {
		var now, then []int
		if wantMay(e) == api.OK {
			now, then = wantReads(e, api.EVar), wantReads(e, api.ENext)
		}
		if got := expr.Reads(e, false); !slices.Equal(got, now) {
			t.Fatalf("%d: reads %v, want %v", i, got, now)
		}
		if got := expr.Reads(e, true); !slices.Equal(got, then) {
			t.Fatalf("%d: reads next %v, want %v", i, got, then)
		}
	}
}

// P2.3
func TestKidsOfValidAreValid(t *testing.T) {
	met := 0
	for i, e := range append(sample(), full(), nots(12)) {
		if expr.May(e) != api.OK {
			continue
		}
		if len(e.Kids) != expr.Kids(e.Op) {
			t.Fatalf("%d: %d children", i, len(e.Kids))
		}
		for _, kid := range e.Kids {
			met++
			if got := expr.May(kid); got != api.OK {
				t.Fatalf("%d: a child of a valid expression: %d", i, got)
			}
		}
	}
	if met < 1000 {
		t.Error("few children:", met)
	}
}

// R2: what lies beyond the length of a list is not read, and nothing is changed.
func TestArgumentsStay(t *testing.T) {
	kids := []api.Expr{leaf(api.EVar, 1), leaf(api.EVar, 2), leaf(api.EVar, 99)}
	e := api.Expr{Op: api.EAdd, Kids: kids[:2]}
	if expr.May(e) != api.OK || expr.Nodes(e) != 3 || !expr.Same(e, node(api.EAdd, kids[0], kids[1])) {
		t.Error("what lies beyond the length is read")
	}
	first := expr.Reads(e, false)
	first[0] = 77
	if second := expr.Reads(e, false); !slices.Equal(second, []int{1, 2}) {
		t.Error("a result is not new memory:", second)
	}
	if kids[0].N != 1 || kids[1].N != 2 || kids[2].N != 99 || e.N != 0 || len(e.Kids) != 2 {
		t.Error("an argument is changed")
	}
}
