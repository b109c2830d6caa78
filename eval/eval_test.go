package eval_test

import (
	"math"
	"math/rand"
	"reflect"
	"testing"

	"parry/api"
	"parry/dom"
	"parry/eval"
	"parry/expr"
	"parry/sort"
)

const (
	truth = api.SBool
	whole = api.SInt
)

func leaf(op, n int) api.Expr { return api.Expr{Op: op, N: n} }

func node(op int, kids ...api.Expr) api.Expr { return api.Expr{Op: op, Kids: kids} }

func num(n int) api.Expr { return leaf(api.ENum, n) }

func flag(n int) api.Expr { return leaf(api.EBool, n) }

func now(n int) api.Expr { return leaf(api.EVar, n) }

func next(n int) api.Expr { return leaf(api.ENext, n) }

// tooMuch has the sort SInt and no value; never has the sort SBool and no value.
func tooMuch() api.Expr { return node(api.EAdd, num(1000), num(1)) }

func never() api.Expr { return node(api.ELess, tooMuch(), num(0)) }

// vars: each sort, on each side, with bounds that are not 0.
func vars() []api.Var {
	return []api.Var{
		{Name: "a", Env: true, Sort: truth},
		{Name: "b", Env: true, Sort: whole, Low: -1, High: 2},
		{Name: "c", Sort: truth},
		{Name: "d", Sort: whole, Low: 498, High: 501},
	}
}

// state is that of vars with these values.
func state(t *testing.T, values ...int) int {
	t.Helper()
	s, ok := dom.State(vars(), values)
	if !ok {
		t.Fatal("no state", values)
	}
	return s
}

// want evaluates everything, nil standing for a value that is too great, and drops afterwards what was not needed.
func want(e api.Expr, now, next []int) *int {
	var kids []*int
	for _, kid := range e.Kids {
		kids = append(kids, want(kid, now, next))
	}
	switch e.Op {
	case api.ENum, api.EBool:
		return &e.N
	case api.EVar:
		return &now[e.N]
	case api.ENext:
		return &next[e.N]
	}
	if kids[0] == nil {
		return nil
	}
	switch needs := *kids[0]; {
	case e.Op == api.EIf && needs == 1:
		return kids[1]
	case e.Op == api.EIf:
		return kids[2]
	case e.Op == api.EAnd && needs == 0, e.Op == api.EOr && needs == 1:
		return kids[0]
	case e.Op == api.EThen && needs == 0:
		return of(1)
	case e.Op == api.EAnd, e.Op == api.EOr, e.Op == api.EThen:
		return kids[1]
	case e.Op == api.ENot:
		return of((needs + 1) % 2)
	}
	if kids[1] == nil {
		return nil
	}
	return wantNumber(e.Op, *kids[0], *kids[1])
}

func wantNumber(op, a, b int) *int {
	is := map[int]bool{api.ESame: a == b, api.ELess: a < b, api.EMost: a < b || a == b}
	if yes, ok := is[op]; ok {
		if yes {
			return of(1)
		}
		return of(0)
	}
	n := map[int]int{api.EAdd: a + b, api.ESub: a - b, api.EMul: a * b}[op]
	if n*n > api.MaxNum*api.MaxNum {
		return nil
	}
	return of(n)
}

func of(n int) *int { return &n }

// hasReads looks for variables below e and in it.
func hasReads(e api.Expr) bool {
	for _, kid := range e.Kids {
		if hasReads(kid) {
			return true
		}
	}
	return e.Op == api.EVar || e.Op == api.ENext
}

// wantFold is for an expression that has a sort.
func wantFold(e api.Expr, l []api.Var) api.Expr {
	if !hasReads(e) {
		if value := want(e, nil, nil); value != nil {
			if has, _ := sort.Of(l, e); has == truth {
				return flag(*value)
			}
			return num(*value)
		}
	}
	r := leaf(e.Op, e.N)
	for _, kid := range e.Kids {
		r.Kids = append(r.Kids, wantFold(kid, l))
	}
	return r
}

// isSame compares any two expressions; no list and an empty one are the same.
func isSame(a, b api.Expr) bool {
	if a.Op != b.Op || a.N != b.N || len(a.Kids) != len(b.Kids) {
		return false
	}
	for i := range a.Kids {
		if !isSame(a.Kids[i], b.Kids[i]) {
			return false
		}
	}
	return true
}

// grow makes an expression of the sort, with parts that read nothing, and with others if reads is true.
func grow(r *rand.Rand, sort, deep int, reads bool) api.Expr {
	if deep <= 1 || r.Intn(5) == 0 {
		return growLeaf(r, sort, reads)
	}
	kid := func(sort int) api.Expr { return grow(r, sort, deep-1, reads && r.Intn(4) > 0) }
	if r.Intn(4) == 0 {
		return node(api.EIf, kid(truth), kid(sort), kid(sort))
	}
	if sort == whole {
		return node(api.EAdd+r.Intn(3), kid(whole), kid(whole))
	}
	switch op := api.ENot + r.Intn(7); op {
	case api.ENot:
		return node(op, kid(truth))
	case api.ELess, api.EMost:
		return node(op, kid(whole), kid(whole))
	case api.ESame:
		sort = truth + r.Intn(2)
		return node(op, kid(sort), kid(sort))
	default:
		return node(op, kid(truth), kid(truth))
	}
}

func growLeaf(r *rand.Rand, sort int, reads bool) api.Expr {
	if reads && r.Intn(4) > 0 {
		v := r.Intn(2) * 2
		if sort == whole {
			v++
		}
		return leaf(api.EVar+r.Intn(2), v)
	}
	if sort == truth {
		return flag(r.Intn(2))
	}
	return num([]int{0, 1, -1, 2, 3, 31, -32, 499, 500, -500, 999, 1000, -1000}[r.Intn(13)])
}

func checkValue(t *testing.T, l []api.Var, e api.Expr, old, new, want int, err api.Errno) {
	t.Helper()
	if got, gotErr := eval.Value(l, e, old, new); got != want || gotErr != err {
		t.Errorf("Value(%v, %v, %d, %d) = %d, %d, not %d, %d", l, e, old, new, got, gotErr, want, err)
	}
}

func checkFold(t *testing.T, l []api.Var, e, want api.Expr) {
	t.Helper()
	if got := eval.Fold(l, e); !isSame(got, want) {
		t.Errorf("Fold(%v, %v) = %v, not %v", l, e, got, want)
	}
}

// P4.1
func TestValueLeaves(t *testing.T) {
	l := vars()
	for _, n := range []int{-1000, -1, 0, 1, 7, 1000} {
		checkValue(t, nil, num(n), 0, 0, n, api.OK)
	}
	checkValue(t, nil, flag(0), 0, 0, 0, api.OK)
	checkValue(t, []api.Var{}, flag(1), 0, 0, 1, api.OK)
	old, new := []int{1, -1, 0, 501}, []int{0, 2, 1, 498}
	for v := range l {
		checkValue(t, l, now(v), state(t, old...), state(t, new...), old[v], api.OK)
		checkValue(t, l, next(v), state(t, old...), state(t, new...), new[v], api.OK)
	}
}

// P4.1: each operation on truths, at each choice of them.
func TestValueTruths(t *testing.T) {
	for bits := range 4 {
		a, b := bits/2, bits%2
		for op, want := range map[int]string{api.EAnd: "0001", api.EOr: "0111", api.EThen: "1101", api.ESame: "1001"} {
			checkValue(t, nil, node(op, flag(a), flag(b)), 0, 0, int(want[bits]-'0'), api.OK)
		}
		checkValue(t, nil, node(api.EIf, flag(a), flag(b), flag(1-b)), 0, 0, int("1001"[bits]-'0'), api.OK)
	}
	checkValue(t, nil, node(api.ENot, flag(0)), 0, 0, 1, api.OK)
	checkValue(t, nil, node(api.ENot, flag(1)), 0, 0, 0, api.OK)
	checkValue(t, nil, node(api.EIf, flag(1), num(-7), num(8)), 0, 0, -7, api.OK)
	checkValue(t, nil, node(api.EIf, flag(0), num(-7), num(8)), 0, 0, 8, api.OK)
}

// P4.1: numbers, up to the bounds and beyond them.
func TestValueNumbers(t *testing.T) {
	for _, x := range []struct {
		op, a, b, want int
		err            api.Errno
	}{
		{api.ESame, 3, 3, 1, api.OK}, {api.ESame, 3, -3, 0, api.OK},
		{api.ELess, 2, 3, 1, api.OK}, {api.ELess, 3, 3, 0, api.OK}, {api.ELess, 3, 2, 0, api.OK}, {api.ELess, -3, 2, 1, api.OK},
		{api.EMost, 2, 3, 1, api.OK}, {api.EMost, 3, 3, 1, api.OK}, {api.EMost, 3, 2, 0, api.OK}, {api.EMost, 2, -3, 0, api.OK},
		{api.EAdd, 2, 3, 5, api.OK}, {api.EAdd, 2, -3, -1, api.OK},
		{api.EAdd, 999, 1, 1000, api.OK}, {api.EAdd, 1000, 1, 0, api.ErrOver},
		{api.EAdd, -999, -1, -1000, api.OK}, {api.EAdd, -1000, -1, 0, api.ErrOver},
		{api.ESub, 2, 3, -1, api.OK}, {api.ESub, 3, 2, 1, api.OK},
		{api.ESub, 999, -1, 1000, api.OK}, {api.ESub, 1000, -1, 0, api.ErrOver},
		{api.ESub, -999, 1, -1000, api.OK}, {api.ESub, -1000, 1, 0, api.ErrOver},
		{api.EMul, 6, 7, 42, api.OK}, {api.EMul, -6, 7, -42, api.OK}, {api.EMul, 0, -1000, 0, api.OK},
		{api.EMul, 500, 2, 1000, api.OK}, {api.EMul, 7, 143, 0, api.ErrOver},
		{api.EMul, -500, 2, -1000, api.OK}, {api.EMul, -7, 143, 0, api.ErrOver},
		{api.EMul, 1000, 1000, 0, api.ErrOver}, {api.EMul, -1000, 1000, 0, api.ErrOver},
	} {
		checkValue(t, nil, node(x.op, num(x.a), num(x.b)), 0, 0, x.want, x.err)
	}
	// A value on the way counts as well.
	checkValue(t, nil, node(api.ESub, tooMuch(), num(1)), 0, 0, 0, api.ErrOver)
	checkValue(t, nil, node(api.EMul, num(0), tooMuch()), 0, 0, 0, api.ErrOver)
	// d of 501 is in its range, and the double of it is not.
	old, new := state(t, 0, 0, 0, 500), state(t, 0, 0, 0, 501)
	checkValue(t, vars(), node(api.EAdd, now(3), now(3)), old, new, 1000, api.OK)
	checkValue(t, vars(), node(api.EMul, num(2), next(3)), old, new, 0, api.ErrOver)
}

// P4.1: what is not needed is not evaluated, and what is needed is.
func TestValueNeeds(t *testing.T) {
	for _, x := range []struct {
		e    api.Expr
		want int
		err  api.Errno
	}{
		{node(api.EAnd, flag(0), never()), 0, api.OK},
		{node(api.EAnd, flag(1), never()), 0, api.ErrOver},
		{node(api.EAnd, never(), flag(0)), 0, api.ErrOver},
		{node(api.EOr, flag(1), never()), 1, api.OK},
		{node(api.EOr, flag(0), never()), 0, api.ErrOver},
		{node(api.EOr, never(), flag(1)), 0, api.ErrOver},
		{node(api.EThen, flag(0), never()), 1, api.OK},
		{node(api.EThen, flag(1), never()), 0, api.ErrOver},
		{node(api.EThen, never(), flag(1)), 0, api.ErrOver},
		{node(api.EIf, flag(1), num(4), tooMuch()), 4, api.OK},
		{node(api.EIf, flag(0), num(4), tooMuch()), 0, api.ErrOver},
		{node(api.EIf, flag(0), tooMuch(), num(4)), 4, api.OK},
		{node(api.EIf, flag(1), tooMuch(), num(4)), 0, api.ErrOver},
		{node(api.EIf, never(), num(4), num(4)), 0, api.ErrOver},
		{node(api.EIf, flag(1), flag(0), never()), 0, api.OK},
		{node(api.ENot, never()), 0, api.ErrOver},
		{node(api.ESame, flag(0), never()), 0, api.ErrOver},
		{node(api.ESame, tooMuch(), tooMuch()), 0, api.ErrOver},
		{node(api.ELess, num(0), tooMuch()), 0, api.ErrOver},
		{node(api.EMost, tooMuch(), num(0)), 0, api.ErrOver},
		// What stands below what is not needed is not needed.
		{node(api.EAnd, flag(0), node(api.EOr, never(), node(api.ENot, never()))), 0, api.OK},
	} {
		checkValue(t, nil, x.e, 0, 0, x.want, x.err)
		if got := eval.True(nil, x.e, 0, 0); got != (x.want == 1) {
			t.Error("True", x.e, got)
		}
	}
}

// P4.1: the first error in the order of the document.
func TestValueErrors(t *testing.T) {
	l := vars()
	total := dom.Total(l)
	ring := make([]api.Expr, 2)
	for i := range ring {
		ring[i] = api.Expr{Op: api.EAnd, Kids: ring}
	}
	for _, x := range []struct {
		l        []api.Var
		e        api.Expr
		old, new int
		err      api.Errno
	}{
		{[]api.Var{{Name: "A", Sort: truth}}, num(1001), -1, -1, api.ErrName},
		{[]api.Var{{Name: "a", Sort: 3}}, num(1), 0, 0, api.ErrSort},
		{[]api.Var{{Name: "a", Sort: whole, Low: 1}}, num(1), 0, 0, api.ErrOver},
		{[]api.Var{{Name: "a", Sort: whole, High: 512}}, num(1), 0, 0, api.ErrFull},
		{l, num(1001), -1, -1, api.ErrArg},
		{l, ring[0], -1, -1, api.ErrFull},
		{l, now(4), -1, -1, api.ErrName},
		{l, node(api.EAdd, flag(1), tooMuch()), total, total, api.ErrSort},
		// A sort is needed even where a value is not.
		{l, node(api.EAnd, flag(0), now(5)), 0, 0, api.ErrName},
		{l, node(api.EIf, flag(1), num(1), flag(1)), 0, 0, api.ErrSort},
		{l, tooMuch(), total, 0, api.ErrArg},
		{l, tooMuch(), 0, total, api.ErrArg},
		{l, tooMuch(), 0, 0, api.ErrOver},
		{l, flag(1), -1, 0, api.ErrArg},
		{l, flag(1), 0, -1, api.ErrArg},
		{l, now(0), 0, total, api.ErrArg},
		{l, next(0), total, 0, api.ErrArg},
		{l, flag(1), math.MinInt, 0, api.ErrArg},
		{l, flag(1), 0, math.MaxInt, api.ErrArg},
		{nil, flag(1), 1, 0, api.ErrArg},
		{nil, flag(1), 0, 1, api.ErrArg},
	} {
		checkValue(t, x.l, x.e, x.old, x.new, 0, x.err)
		if eval.True(x.l, x.e, x.old, x.new) {
			t.Error("True", x.l, x.e, x.old, x.new)
		}
	}
	checkValue(t, l, flag(1), total-1, total-1, 1, api.OK)
	// Beyond the length of a list there is nothing, whatever the memory holds.
	checkValue(t, l[:2], now(2), 0, 0, 0, api.ErrName)
}

// P4.2: only truths are true.
func TestTrue(t *testing.T) {
	l := vars()
	one := []api.Var{{Name: "n", Sort: whole, Low: 1, High: 1}}
	for _, x := range []struct {
		l    []api.Var
		e    api.Expr
		want bool
	}{
		{nil, flag(1), true},
		{nil, flag(0), false},
		{nil, num(1), false},
		{one, now(0), false},
		{one, node(api.ESame, now(0), next(0)), true},
		{nil, node(api.EIf, flag(1), num(1), num(1)), false},
		{nil, node(api.EIf, flag(1), flag(1), flag(0)), true},
		{l, now(0), true},
		{l, next(0), false},
		{l, now(2), false},
		{l, next(2), true},
		{l, node(api.ELess, now(1), next(1)), true},
		{l, node(api.ELess, next(1), now(1)), false},
	} {
		old, new := 0, 0
		if len(x.l) == len(l) {
			old, new = state(t, 1, 0, 0, 499), state(t, 0, 2, 1, 500)
		}
		if got := eval.True(x.l, x.e, old, new); got != x.want {
			t.Error(x.l, x.e, got)
		}
	}
}

// P4.1 and P4.2: many expressions in many states, against an evaluation of everything.
func TestValueSample(t *testing.T) {
	r := rand.New(rand.NewSource(4))
	l := vars()
	met := map[api.Errno]int{}
	for range 40000 {
		has := truth + r.Intn(2)
		e := grow(r, has, 1+r.Intn(5), true)
		old, new := r.Intn(dom.Total(l)), r.Intn(dom.Total(l))
		if expr.May(e) != api.OK {
			checkValue(t, l, e, old, new, 0, api.ErrFull)
			continue
		}
		olds, _ := dom.Values(l, old)
		news, _ := dom.Values(l, new)
		value, err := 0, api.ErrOver
		if v := want(e, olds, news); v != nil {
			value, err = *v, api.OK
		}
		checkValue(t, l, e, old, new, value, err)
		if got := eval.True(l, e, old, new); got != (value == 1 && has == truth) {
			t.Fatal("True", e, old, new, got)
		}
		met[err]++
	}
	if met[api.OK] < 10000 || met[api.ErrOver] < 1000 {
		t.Error("too few", met)
	}
}

// P4.2: what is replaced, and what stays.
func TestFold(t *testing.T) {
	l := vars()
	five := node(api.EAdd, num(2), num(3))
	for _, x := range []struct{ e, want api.Expr }{
		{num(-4), num(-4)},
		{flag(1), flag(1)},
		{now(0), now(0)},
		{next(3), next(3)},
		{five, num(5)},
		{node(api.ELess, five, num(4)), flag(0)},
		{node(api.EIf, flag(1), five, num(0)), num(5)},
		{node(api.EIf, flag(0), flag(0), node(api.ENot, flag(0))), flag(1)},
		// A value that hangs on no variable, though one is there, stays.
		{node(api.EAnd, flag(0), now(0)), node(api.EAnd, flag(0), now(0))},
		{node(api.EIf, flag(1), five, now(1)), node(api.EIf, flag(1), num(5), now(1))},
		{node(api.EMul, num(0), next(1)), node(api.EMul, num(0), next(1))},
		// The topmost nodes, not only the greatest ones.
		{node(api.ESame, node(api.EAdd, five, five), node(api.EMul, now(1), five)), node(api.ESame, num(10), node(api.EMul, now(1), num(5)))},
		{node(api.EAnd, node(api.ENot, now(2)), node(api.EMost, five, five)), node(api.EAnd, node(api.ENot, now(2)), flag(1))},
		// What has no value stays, and what is below it is folded.
		{node(api.EAdd, num(998), five), node(api.EAdd, num(998), num(5))},
		{tooMuch(), tooMuch()},
		{node(api.ELess, tooMuch(), five), node(api.ELess, tooMuch(), num(5))},
		{node(api.EAnd, never(), node(api.ENot, flag(1))), node(api.EAnd, never(), flag(0))},
		// What has one though a part of it has none is folded whole.
		{node(api.EOr, flag(1), never()), flag(1)},
		{node(api.EIf, flag(0), tooMuch(), five), num(5)},
		{node(api.EIf, now(0), tooMuch(), five), node(api.EIf, now(0), tooMuch(), num(5))},
	} {
		checkFold(t, l, x.e, x.want)
	}
	checkFold(t, nil, five, num(5))
}

// P4.2: without a sort, nothing is replaced, though there are parts with values.
func TestFoldCopies(t *testing.T) {
	l := vars()
	five := node(api.EAdd, num(2), num(3))
	deep := five
	for range 2 * api.MaxDeep {
		deep = node(api.EAdd, deep, num(1))
	}
	for _, x := range []struct {
		l []api.Var
		e api.Expr
	}{
		{[]api.Var{{Name: "if", Sort: truth}}, five},
		{[]api.Var{{Name: "a", Sort: whole, High: 512}}, five},
		{l, api.Expr{}},
		{l, leaf(math.MinInt, math.MaxInt)},
		{l, num(1001)},
		{l, node(api.EAdd, five, flag(1))},
		{l, node(api.EAdd, five, now(4))},
		{l, node(api.EAdd, five, five, five)},
		{l, node(api.ENum, five)},
		{l, api.Expr{Op: api.EAdd, N: 1, Kids: []api.Expr{five, five}}},
		{l, deep},
		{l, api.Expr{Op: api.EAdd, Kids: make([]api.Expr, 1<<20)}},
	} {
		checkFold(t, x.l, x.e, x.e)
	}
}

// P4.2 and P4.3: a copy of a tree as deep as the limits allow, and an end without one (R3) beyond them.
func TestFoldHuge(t *testing.T) {
	deep := num(1)
	for range 1 << 16 {
		deep = node(api.ENot, deep)
	}
	checkFold(t, nil, deep, deep)

	ring := make([]api.Expr, 2)
	for i := range ring {
		ring[i] = api.Expr{Op: api.EAnd, Kids: ring}
	}
	tower := flag(1) // a single list a level, and 2^61 - 1 nodes
	for range 60 {
		tower = node(api.EAnd, tower, tower)
	}
	for _, e := range []api.Expr{ring[0], tower} {
		got := eval.Fold(vars(), e)
		checkValue(t, vars(), e, 0, 0, 0, api.ErrFull)
		checkValue(t, vars(), got, 0, 0, 0, api.ErrFull)
		checkFold(t, vars(), got, got)
	}
}

// P4.2 and P4.3: many expressions; what is folded has the same values and errors in all states, and folding it again changes nothing.
func TestFoldSample(t *testing.T) {
	r := rand.New(rand.NewSource(44))
	l := vars()
	changed, over := 0, 0
	for i := range 20000 {
		e := grow(r, truth+r.Intn(2), 1+r.Intn(5), i%4 > 0)
		folded := eval.Fold(l, e)
		if expr.May(e) != api.OK {
			checkFold(t, l, e, e)
			continue
		}
		checkFold(t, l, e, wantFold(e, l))
		checkFold(t, l, folded, folded)
		if !isSame(e, folded) {
			changed++
		}
		has, _ := sort.Of(l, e)
		if got, err := sort.Of(l, folded); got != has || err != api.OK {
			t.Fatal("sort", e, folded, got, err)
		}
		for range 20 {
			old, new := r.Intn(dom.Total(l)+2)-1, r.Intn(dom.Total(l)+2)-1
			value, err := eval.Value(l, e, old, new)
			checkValue(t, l, folded, old, new, value, err)
			if err == api.ErrOver {
				over++
			}
		}
	}
	if changed < 5000 || over < 1000 {
		t.Error("too few", changed, over)
	}
}

// P4.3: without a sort too.
func TestFoldKeepsErrors(t *testing.T) {
	for _, e := range []api.Expr{{}, num(1001), now(4), node(api.EAnd, tooMuch(), flag(1)), {Op: api.EAdd, Kids: make([]api.Expr, 61)}} {
		value, err := eval.Value(vars(), e, 0, 0)
		checkValue(t, vars(), eval.Fold(vars(), e), 0, 0, value, err)
	}
}

// lists hands every list below e to see.
func lists(e api.Expr, see func([]api.Expr)) {
	if len(e.Kids) > 0 {
		see(e.Kids)
	}
	for _, kid := range e.Kids {
		lists(kid, see)
	}
}

// R2: no list of the result is one of the argument, or stands in the result twice.
func TestFoldMemory(t *testing.T) {
	pair := []api.Expr{now(1), next(1), num(7)}[:2]
	sum := api.Expr{Op: api.EAdd, Kids: pair}
	for _, e := range []api.Expr{
		node(api.ELess, sum, node(api.ESub, sum, sum)),
		node(api.EAnd, sum, node(api.ENot, sum)),
	} {
		seen := map[*api.Expr]int{}
		lists(e, func(l []api.Expr) { seen[&l[0]] = 1 })
		var results [][]api.Expr
		lists(eval.Fold(vars(), e), func(l []api.Expr) {
			seen[&l[0]]++
			results = append(results, l)
		})
		for _, l := range results {
			if seen[&l[0]] > 1 {
				t.Error("a shared list", e)
			}
			for i := range cap(l) {
				l[:cap(l)][i] = flag(0)
			}
		}
		if !isSame(pair[0], now(1)) || !isSame(pair[1], next(1)) || !isSame(pair[:3][2], num(7)) {
			t.Fatal("changed through the result", pair)
		}
	}
}

// R2
func TestArgumentsStay(t *testing.T) {
	fresh := func() api.Expr {
		return node(api.EIf, node(api.ELess, now(1), next(3)), node(api.EAdd, num(3), num(1)), next(1))
	}
	for _, l := range [][]api.Var{vars(), nil} {
		e := fresh()
		eval.Value(l, e, 0, 1)
		eval.True(l, e, 0, 1)
		eval.Fold(l, e)
		if !reflect.DeepEqual(e, fresh()) || l != nil && !reflect.DeepEqual(l, vars()) {
			t.Error("changed", l)
		}
	}
}
