package sort_test

import (
	"math"
	"math/rand"
	"reflect"
	"testing"

	"parry/api"
	"parry/dom"
	"parry/expr"
	"parry/sort"
)

const (
	none  = api.SNone
	truth = api.SBool
	whole = api.SInt
)

func leaf(op, n int) api.Expr { return api.Expr{Op: op, N: n} }

func node(op int, kids ...api.Expr) api.Expr { return api.Expr{Op: op, Kids: kids} }

func num(n int) api.Expr { return leaf(api.ENum, n) }

func flag(n int) api.Expr { return leaf(api.EBool, n) }

func now(n int) api.Expr { return leaf(api.EVar, n) }

func next(n int) api.Expr { return leaf(api.ENext, n) }

// vars: each sort on each side.
func vars() []api.Var {
	return []api.Var{
		{Name: "a", Env: true, Sort: truth},
		{Name: "b", Env: true, Sort: whole, Low: -1, High: 2},
		{Name: "c", Sort: truth},
		{Name: "d", Sort: whole, Low: 3, High: 5},
	}
}

// of has an expression of each sort.
func of(sort int) api.Expr {
	if sort == whole {
		return num(2)
	}
	return flag(1)
}

// gives says by a table, one row for each operation and sorts of children, what sort the node has.
func gives(op int, kids []int) int {
	table := []struct{ op, a, b, c, gives int }{
		{op: api.ENum, gives: whole},
		{op: api.EBool, gives: truth},
		{api.ENot, truth, none, none, truth},
		{api.EAnd, truth, truth, none, truth},
		{api.EOr, truth, truth, none, truth},
		{api.EThen, truth, truth, none, truth},
		{api.ESame, truth, truth, none, truth},
		{api.ESame, whole, whole, none, truth},
		{api.ELess, whole, whole, none, truth},
		{api.EMost, whole, whole, none, truth},
		{api.EAdd, whole, whole, none, whole},
		{api.ESub, whole, whole, none, whole},
		{api.EMul, whole, whole, none, whole},
		{api.EIf, truth, truth, truth, truth},
		{api.EIf, truth, whole, whole, whole},
	}
	all := append(append([]int(nil), kids...), none, none, none)
	for _, row := range table {
		if row.op == op && row.a == all[0] && row.b == all[1] && row.c == all[2] {
			return row.gives
		}
	}
	return none
}

// wantOf goes through the nodes in a list, children first, and keeps the sorts on a stack.
func wantOf(l []api.Var, e api.Expr) (int, api.Errno) {
	if err := dom.May(l); err != api.OK {
		return 0, err
	}
	if err := expr.May(e); err != api.OK {
		return 0, err
	}
	var stack []int
	for _, x := range after(e) {
		rest := len(stack) - len(x.Kids)
		sort := none
		if x.Op == api.EVar || x.Op == api.ENext {
			if x.N > len(l)-1 {
				return 0, api.ErrName
			}
			sort = l[x.N].Sort
		} else if sort = gives(x.Op, stack[rest:]); sort == none {
			return 0, api.ErrSort
		}
		stack = append(stack[:rest], sort)
	}
	return stack[0], api.OK
}

// after lists the nodes, children before their node.
func after(e api.Expr) []api.Expr {
	var r []api.Expr
	for _, kid := range e.Kids {
		r = append(r, after(kid)...)
	}
	return append(r, e)
}

func wantNeeds(l []api.Var, e api.Expr, sort int, now, env, sys bool) api.Errno {
	got, err := wantOf(l, e)
	if err != api.OK {
		return err
	}
	if got != sort {
		return api.ErrSort
	}
	for _, x := range after(e) {
		if x.Op == api.ENext && (l[x.N].Env && !env || !l[x.N].Env && !sys) {
			return api.ErrNext
		}
	}
	for _, x := range after(e) {
		if x.Op == api.EVar && !l[x.N].Env && !now {
			return api.ErrName
		}
	}
	return api.OK
}

// grow makes an expression that has the sort, but at one node in slip.
func grow(r *rand.Rand, l []api.Var, sort, deep, slip int) api.Expr {
	if slip > 0 && r.Intn(slip) == 0 {
		if r.Intn(2) == 0 {
			return leaf(api.EVar+r.Intn(2), r.Intn(len(l)+2))
		}
		sort = truth + whole - sort
	}
	if deep <= 1 || r.Intn(4) == 0 {
		v := r.Intn(len(l) * 2)
		if v < len(l) && l[v].Sort == sort {
			return leaf(api.EVar+r.Intn(2), v)
		}
		return of(sort)
	}
	kid := func(sort int) api.Expr { return grow(r, l, sort, deep-1, slip) }
	if r.Intn(4) == 0 {
		return node(api.EIf, kid(truth), kid(sort), kid(sort))
	}
	if sort == whole {
		return node(api.EAdd+r.Intn(3), kid(whole), kid(whole))
	}
	switch op := api.ENot + r.Intn(7); op {
	case api.ENot:
		return node(op, kid(truth))
	case api.ELess, api.EMost:
		return node(op, kid(whole), kid(whole))
	case api.ESame:
		sort = truth + r.Intn(2)
		return node(op, kid(sort), kid(sort))
	default:
		return node(op, kid(truth), kid(truth))
	}
}

func checkOf(t *testing.T, l []api.Var, e api.Expr, want int, err api.Errno) {
	t.Helper()
	if got, gotErr := sort.Of(l, e); got != want || gotErr != err {
		t.Errorf("Of(%v, %v) = %d, %d, not %d, %d", l, e, got, gotErr, want, err)
	}
}

// P3.1
func TestOfLeaves(t *testing.T) {
	l := vars()
	checkOf(t, l, num(0), whole, api.OK)
	checkOf(t, l, num(-1000), whole, api.OK)
	checkOf(t, l, flag(0), truth, api.OK)
	checkOf(t, nil, flag(1), truth, api.OK)
	checkOf(t, []api.Var{}, num(1000), whole, api.OK)
	for v, x := range l {
		checkOf(t, l, now(v), x.Sort, api.OK)
		checkOf(t, l, next(v), x.Sort, api.OK)
	}
}

// P3.1: each operation at each choice of sorts.
func TestOfOperations(t *testing.T) {
	sorts := []int{truth, whole}
	for op := api.ENot; op <= api.LastOp; op++ {
		for _, a := range sorts {
			for _, b := range sorts {
				for _, c := range sorts {
					kids := []int{a, b, c}[:expr.Kids(op)]
					e := api.Expr{Op: op}
					for _, kid := range kids {
						e.Kids = append(e.Kids, of(kid))
					}
					want, err := gives(op, kids), api.OK
					if want == none {
						err = api.ErrSort
					}
					checkOf(t, vars(), e, want, err)
				}
			}
		}
	}
}

// P3.1: a variable that does not exist, up to the greatest that an expression may have.
func TestOfMissingVariable(t *testing.T) {
	for size := range api.MaxVars + 1 {
		var l []api.Var
		for i := range size {
			l = append(l, api.Var{Name: string(rune('a' + i)), Sort: truth})
		}
		for v := range api.MaxVars {
			want, err := truth, api.OK
			if v >= size {
				want, err = none, api.ErrName
			}
			checkOf(t, l, now(v), want, err)
			checkOf(t, l, next(v), want, err)
		}
		checkOf(t, l, now(api.MaxVars), none, api.ErrArg)
		checkOf(t, l, next(-1), none, api.ErrArg)
	}
}

// P3.1: beyond the length of a list there is nothing, whatever the memory holds.
func TestOfBeyondLength(t *testing.T) {
	checkOf(t, vars()[:2], now(2), none, api.ErrName)
	kids := []api.Expr{num(1), num(2), flag(1)}
	checkOf(t, nil, api.Expr{Op: api.EAdd, Kids: kids[:2]}, whole, api.OK)
}

// P3.1: the first error in the order of the document.
func TestOfOrder(t *testing.T) {
	l := vars()
	bad := node(api.ENot, num(1))
	for _, x := range []struct {
		l   []api.Var
		e   api.Expr
		err api.Errno
	}{
		// The variables before the expression.
		{[]api.Var{{Name: "A", Sort: truth}}, now(99), api.ErrName},
		{[]api.Var{{Name: "a", Sort: 3}}, now(99), api.ErrSort},
		{[]api.Var{{Name: "a", Sort: truth, High: 1}}, bad, api.ErrOver},
		{[]api.Var{{Name: "a", Sort: whole, High: 512}}, leaf(0, 0), api.ErrFull},
		{[]api.Var{{Name: "a", Sort: truth}, {Name: "a", Sort: truth}}, num(1), api.ErrName},
		// Its form before its sorts.
		{l, node(api.EAnd, bad, leaf(api.EBool, 2)), api.ErrArg},
		{l, node(api.EAnd, now(4), node(api.ENot)), api.ErrArg},
		{l, leaf(0, 0), api.ErrArg},
		{l, leaf(16, 0), api.ErrArg},
		{l, leaf(math.MinInt, math.MaxInt), api.ErrArg},
		{l, num(1001), api.ErrArg},
		{l, node(api.EAdd, num(1), num(2), flag(1)), api.ErrArg},
		// Children before their node, and in order.
		{l, node(api.EAnd, num(1), now(4)), api.ErrName},
		{l, node(api.EAnd, bad, now(4)), api.ErrSort},
		{l, node(api.EAnd, now(4), bad), api.ErrName},
		{l, node(api.ESame, node(api.ENot, now(4)), bad), api.ErrName},
		{l, node(api.EIf, num(1), flag(1), next(5)), api.ErrName},
		{l, node(api.EIf, flag(1), bad, next(5)), api.ErrSort},
		{l, node(api.EIf, next(5), bad, bad), api.ErrName},
		{l, node(api.EAdd, node(api.EIf, flag(0), num(1), flag(1)), now(5)), api.ErrSort},
	} {
		checkOf(t, x.l, x.e, none, x.err)
	}
}

// P3.1, and R3: what is too great, too deep, or holds itself.
func TestOfHugeExpressions(t *testing.T) {
	deep := flag(1)
	for range api.MaxDeep - 1 {
		deep = node(api.ENot, deep)
	}
	checkOf(t, nil, deep, truth, api.OK)
	checkOf(t, nil, node(api.ENot, deep), none, api.ErrFull)

	wide := api.Expr{Op: api.EAdd, Kids: make([]api.Expr, 1<<20)}
	checkOf(t, nil, wide, none, api.ErrFull)

	ring := make([]api.Expr, 2)
	for i := range ring {
		ring[i] = api.Expr{Op: api.EAnd, Kids: ring}
	}
	checkOf(t, nil, ring[0], none, api.ErrFull)
	if err := sort.Needs(nil, ring[0], truth, true, true, true); err != api.ErrFull {
		t.Error(err)
	}
}

// P3.2: each reading under each permission.
func TestNeedsReads(t *testing.T) {
	l := vars()
	for bits := range 8 {
		old, env, sys := bits&1 != 0, bits&2 != 0, bits&4 != 0
		for v, x := range l {
			want := api.OK
			if !x.Env && !old {
				want = api.ErrName
			}
			if got := sort.Needs(l, now(v), x.Sort, old, env, sys); got != want {
				t.Error("now", v, bits, got)
			}
			want = api.OK
			if x.Env && !env || !x.Env && !sys {
				want = api.ErrNext
			}
			if got := sort.Needs(l, next(v), x.Sort, old, env, sys); got != want {
				t.Error("next", v, bits, got)
			}
		}
	}
}

// P3.2: the first error in the order of the document, wherever it stands in the expression.
func TestNeedsOrder(t *testing.T) {
	l := vars()
	both := node(api.EAnd, now(2), node(api.ENot, next(0)))
	for i, x := range []struct {
		l             []api.Var
		e             api.Expr
		sort          int
		now, env, sys bool
		want          api.Errno
	}{
		{[]api.Var{{Name: "if", Sort: truth}}, next(0), whole, false, false, false, api.ErrName},
		{l, node(api.EAnd, next(0), now(9)), whole, false, false, false, api.ErrArg},
		{l, node(api.EAnd, next(0), now(4)), whole, false, false, false, api.ErrName},
		{l, node(api.EAnd, next(0), num(1)), truth, false, false, false, api.ErrSort},
		{l, both, whole, false, false, false, api.ErrSort},
		{l, both, none, true, true, true, api.ErrSort},
		{l, both, 3, true, true, true, api.ErrSort},
		{l, both, math.MinInt, true, true, true, api.ErrSort},
		{l, both, truth, false, false, false, api.ErrNext},
		{l, both, truth, false, false, true, api.ErrNext},
		{l, both, truth, false, true, false, api.ErrName},
		{l, both, truth, true, true, false, api.OK},
		{l, node(api.EAnd, next(0), next(2)), truth, true, true, false, api.ErrNext},
		{l, node(api.EAnd, next(0), next(2)), truth, true, false, true, api.ErrNext},
		{l, node(api.EAnd, next(0), next(2)), truth, false, true, true, api.OK},
		{l, node(api.ELess, now(1), now(3)), truth, false, true, true, api.ErrName},
		{nil, num(4), whole, false, false, false, api.OK},
		{nil, num(4), truth, true, true, true, api.ErrSort},
	} {
		if got := sort.Needs(x.l, x.e, x.sort, x.now, x.env, x.sys); got != x.want {
			t.Error(i, got, x.want)
		}
	}
}

// P3.1 to P3.3: many expressions, against the table; one that has a sort serves in a place of this sort, and in no other.
func TestSample(t *testing.T) {
	r := rand.New(rand.NewSource(3))
	met := map[api.Errno]int{}
	for i := range 40000 {
		l := vars()[:1+r.Intn(4)]
		e := grow(r, l, truth+r.Intn(2), 1+r.Intn(6), (i%4)*6)
		want, err := wantOf(l, e)
		checkOf(t, l, e, want, err)
		met[err]++
		places := 0
		for place := -1; place <= 4; place++ {
			old, env, sys := r.Intn(3) > 0, r.Intn(3) > 0, r.Intn(3) > 0
			needs := wantNeeds(l, e, place, old, env, sys)
			if got := sort.Needs(l, e, place, old, env, sys); got != needs {
				t.Fatal(l, e, place, old, env, sys, got, needs)
			}
			if sort.Needs(l, e, place, true, true, true) == api.OK {
				places++
			}
		}
		if (err == api.OK) != (places == 1) || places > 1 {
			t.Fatal("places", l, e, places)
		}
	}
	for _, err := range []api.Errno{api.OK, api.ErrName, api.ErrSort, api.ErrFull} {
		if met[err] < 100 {
			t.Error("too few of", err, met[err])
		}
	}
}

// P3.3: the sort is that of the expression alone: no value, no side and no other variable changes it.
func TestOneSort(t *testing.T) {
	r := rand.New(rand.NewSource(33))
	for range 2000 {
		e := grow(r, vars(), truth+r.Intn(2), 4, 0)
		want, err := sort.Of(vars(), e)
		l := vars()
		for i := range l {
			l[i].Name += "_"
			l[i].Env = r.Intn(2) == 0
		}
		l = append(l, api.Var{Name: "more", Sort: whole})
		checkOf(t, l, e, want, err)
		for _, kid := range e.Kids {
			if _, kidErr := sort.Of(vars(), kid); err == api.OK && kidErr != api.OK {
				t.Fatal("a child without a sort", e)
			}
		}
	}
}

// R2
func TestArgumentsStay(t *testing.T) {
	l := vars()
	fresh := func() api.Expr {
		return node(api.EIf, node(api.ELess, now(1), next(3)), node(api.EAdd, now(3), num(1)), next(1))
	}
	e := fresh()
	checkOf(t, l, e, whole, api.OK)
	if err := sort.Needs(l, e, whole, true, true, true); err != api.OK {
		t.Error(err)
	}
	if !reflect.DeepEqual(l, vars()) || !reflect.DeepEqual(e, fresh()) {
		t.Error("changed")
	}
}
