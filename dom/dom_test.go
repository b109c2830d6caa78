package dom_test

import (
	"math"
	"slices"
	"strconv"
	"strings"
	"testing"

	"parry/api"
	"parry/dom"
)

func flag(name string) api.Var { return api.Var{Name: name, Sort: api.SBool} }

func span(name string, low, high int) api.Var {
	return api.Var{Name: name, Sort: api.SInt, Low: low, High: high}
}

func ofEnv(v api.Var) api.Var {
	v.Env = true
	return v
}

// many returns n variables of the same bounds with different names.
func many(n, low, high int) []api.Var {
	l := make([]api.Var, n)
	for i := range l {
		l[i] = span("v"+strconv.Itoa(i), low, high)
	}
	return l
}

// validLists are lists of all shapes: none, one value only, both sides, negative bounds, full.
func validLists() [][]api.Var {
	return [][]api.Var{
		nil,
		{},
		{flag("a")},
		{span("a", 5, 5)},
		{span("a", -1000, -1000), span("b", 1000, 1000)},
		{flag("x"), span("y", 1, 3)},
		{ofEnv(flag("x")), span("y", 1, 3), ofEnv(span("z", -1, 0))},
		{span("a", -2, 4), ofEnv(span("b", 7, 7)), ofEnv(flag("c")), span("d", 0, 4)},
		{span("a", -600, -89)},
		{ofEnv(span("a", 1, 256)), flag("b")},
		{flag("a"), ofEnv(flag("b")), span("c", -3, 0), ofEnv(flag("d")), flag("e"), span("f", 9, 12)},
	}
}

// invalidLists are lists for which May is not OK.
func invalidLists() [][]api.Var {
	return [][]api.Var{
		{flag("")},
		{flag("a"), flag("a")},
		{{Name: "a"}},
		{{Name: "a", Sort: api.SBool, High: 1}},
		{span("a", 1, 0)},
		{span("a", 1, 513)},
		many(7, 0, 0),
	}
}

// valuations counts through all values of l, the first variable fastest: the order of the states.
func valuations(l []api.Var) [][]int {
	low, high := make([]int, len(l)), make([]int, len(l))
	for i, v := range l {
		low[i], high[i] = v.Low, v.High
		if v.Sort == api.SBool {
			low[i], high[i] = 0, 1
		}
	}
	var all [][]int
	now := slices.Clone(low)
	for {
		all = append(all, slices.Clone(now))
		i := 0
		for i < len(l) && now[i] == high[i] {
			now[i] = low[i]
			i++
		}
		if i == len(l) {
			return all
		}
		now[i]++
	}
}

// P1.1: names.
func TestMayNames(t *testing.T) {
	good := []string{"a", "z", "a0", "z9_", "a_", "a__b", "do", "integer", "bools", "trues", "an", "ifs", "none",
		"abcdefghijklmnop", strings.Repeat("q", 16)}
	bad := []string{"", "A", "aB", "0", "0a", "_", "_a", "a-b", "a b", " a", "a ", "a'", "a\x00", "a\n", "é", "aé", "a\xff",
		strings.Repeat("q", 17), strings.Repeat("q", 100000),
		"bool", "int", "env", "sys", "init", "when", "assume", "ensure", "prio",
		"any", "true", "false", "if", "then", "else", "not", "and", "or"}
	for _, name := range good {
		if got := dom.May([]api.Var{flag(name)}); got != api.OK {
			t.Errorf("May of %q: %d", name, got)
		}
	}
	for _, name := range bad {
		if got := dom.May([]api.Var{flag(name)}); got != api.ErrName {
			t.Errorf("May of %q: %d", name, got)
		}
	}
}

// P1.1: each byte, as the first one of a name and as a later one.
func TestMayNameBytes(t *testing.T) {
	for b := range 256 {
		one := string([]byte{byte(b)})
		first := strings.Contains("abcdefghijklmnopqrstuvwxyz", one)
		later := strings.Contains("abcdefghijklmnopqrstuvwxyz0123456789_", one)
		if got := dom.May([]api.Var{flag(one)}) == api.OK; got != first {
			t.Errorf("byte %d as the first one: %v", b, got)
		}
		if got := dom.May([]api.Var{flag("x" + one + "x")}) == api.OK; got != later {
			t.Errorf("byte %d as a later one: %v", b, got)
		}
	}
}

// P1.1: sorts, bounds and sizes of a single list.
func TestMayValues(t *testing.T) {
	for i, x := range []struct {
		l    []api.Var
		want api.Errno
	}{
		{[]api.Var{{Name: "a", Sort: api.SNone}}, api.ErrSort},
		{[]api.Var{{Name: "a", Sort: 3}}, api.ErrSort},
		{[]api.Var{{Name: "a", Sort: -1}}, api.ErrSort},
		{[]api.Var{{Name: "a", Sort: math.MaxInt}}, api.ErrSort},
		{[]api.Var{{Name: "a", Sort: api.SBool, Low: 1}}, api.ErrOver},
		{[]api.Var{{Name: "a", Sort: api.SBool, High: 1}}, api.ErrOver},
		{[]api.Var{{Name: "a", Sort: api.SBool, Low: -1, High: 1}}, api.ErrOver},
		{[]api.Var{span("a", 1, 0)}, api.ErrOver},
		{[]api.Var{span("a", -1001, -1000)}, api.ErrOver},
		{[]api.Var{span("a", 1000, 1001)}, api.ErrOver},
		{[]api.Var{span("a", 1001, 1001)}, api.ErrOver},
		{[]api.Var{span("a", math.MinInt, math.MaxInt)}, api.ErrOver},
		{[]api.Var{span("a", math.MaxInt, math.MinInt)}, api.ErrOver},
		{[]api.Var{span("a", -1000, -1000)}, api.OK},
		{[]api.Var{span("a", 1000, 1000)}, api.OK},
		{[]api.Var{span("a", 0, 511)}, api.OK},
		{[]api.Var{span("a", 0, 512)}, api.ErrFull},
		{[]api.Var{span("a", 0, 255), flag("b")}, api.OK},
		{[]api.Var{span("a", 0, 256), flag("b")}, api.ErrFull},
		{many(6, 4, 4), api.OK},
		{many(7, 4, 4), api.ErrFull},
		{many(6, 0, 1), api.OK},
		{many(6, 0, 2), api.ErrFull},
	} {
		if got := dom.May(x.l); got != x.want {
			t.Errorf("%d: %d, not %d", i, got, x.want)
		}
	}
	for i, l := range validLists() {
		if got := dom.May(l); got != api.OK {
			t.Errorf("valid list %d: %d", i, got)
		}
	}
	for i, l := range invalidLists() {
		if got := dom.May(l); got == api.OK {
			t.Errorf("invalid list %d", i)
		}
	}
}

// P1.1 and R4: which of several errors is returned.
func TestMayOrder(t *testing.T) {
	over := span("o", 1, 0)
	none := api.Var{Name: "n"}
	wide := span("w", -1000, 1000)
	for i, x := range []struct {
		l    []api.Var
		want api.Errno
	}{
		{[]api.Var{{Name: "", Sort: 9, Low: 1}}, api.ErrName},
		{[]api.Var{{Name: "a", Sort: 9, Low: 1}}, api.ErrSort},
		{[]api.Var{over, none, flag("")}, api.ErrOver},
		{[]api.Var{none, over, flag("")}, api.ErrSort},
		{[]api.Var{flag(""), over, none}, api.ErrName},
		{[]api.Var{flag("a"), {Name: "a"}}, api.ErrName},
		{[]api.Var{over, over}, api.ErrOver},
		{[]api.Var{flag("a"), flag("b"), flag("c"), flag("b")}, api.ErrName},
		{[]api.Var{flag("a"), flag("b"), over, flag("a")}, api.ErrOver},
		{[]api.Var{wide, over}, api.ErrOver},
		{[]api.Var{wide, wide}, api.ErrName},
		{[]api.Var{wide, none}, api.ErrSort},
		{append(many(9, 0, 9), none), api.ErrSort},
		{append(many(9, 0, 9), span("v0", 0, 9)), api.ErrName},
		{append(many(9, 0, 9), over), api.ErrOver},
	} {
		if got := dom.May(x.l); got != x.want {
			t.Errorf("%d: %d, not %d", i, got, x.want)
		}
	}
}

// P1.1 and R3: a long list is checked to its end.
func TestMayLong(t *testing.T) {
	l := many(200000, 0, 1)
	if got := dom.May(l); got != api.ErrFull {
		t.Error("different names:", got)
	}
	if got := dom.May(append(l, l[100000])); got != api.ErrName {
		t.Error("a name again:", got)
	}
	if dom.Total(l) != 0 || dom.Find(l, "v199999") != 199999 {
		t.Error("Total, Find")
	}
}

// P1.1: Size.
func TestSize(t *testing.T) {
	for i, x := range []struct {
		v    api.Var
		want int
	}{
		{api.Var{}, 0},
		{api.Var{Low: 1, High: 2}, 0},
		{api.Var{Sort: 3, High: 2}, 0},
		{api.Var{Sort: -1}, 0},
		{api.Var{Sort: api.SBool}, 2},
		{api.Var{Sort: api.SBool, Low: 7, High: -7}, 2},
		{api.Var{Sort: api.SInt}, 1},
		{span("", -1000, 1000), 2001},
		{span("", -1000, -1000), 1},
		{span("", 1000, 1000), 1},
		{span("", -3, 4), 8},
		{span("", 4, 3), 0},
		{span("", 4, -4), 0},
		{span("", -1001, 0), 0},
		{span("", 0, 1001), 0},
		{span("", math.MinInt, math.MaxInt), 0},
		{span("", math.MaxInt, math.MinInt), 0},
		{span("", math.MinInt, math.MinInt), 0},
	} {
		if got := dom.Size(x.v); got != x.want {
			t.Errorf("%d: %d, not %d", i, got, x.want)
		}
	}
}

// P1.1: Total.
func TestTotal(t *testing.T) {
	for i, l := range validLists() {
		if got := dom.Total(l); got != len(valuations(l)) {
			t.Errorf("valid list %d: %d", i, got)
		}
	}
	for i, x := range []struct {
		l    []api.Var
		want int
	}{
		{nil, 1},
		{[]api.Var{flag(""), flag(""), span("TRUE", 0, 2)}, 12},
		{[]api.Var{flag("if"), flag("if")}, 4},
		{[]api.Var{{}}, 0},
		{[]api.Var{{Sort: 3}}, 0},
		{[]api.Var{{Sort: api.SBool, Low: 1}}, 0},
		{[]api.Var{{Sort: api.SBool, High: 1}}, 0},
		{[]api.Var{span("a", 1, 0)}, 0},
		{[]api.Var{span("a", 0, 1001)}, 0},
		{[]api.Var{flag("a"), {}}, 0},
		{[]api.Var{span("a", 0, 511)}, 512},
		{[]api.Var{span("a", 0, 512)}, 0},
		{many(6, 3, 3), 1},
		{many(7, 3, 3), 0},
		{many(3, 1, 8), 512},
		{many(4, 1, 8), 0},
	} {
		if got := dom.Total(x.l); got != x.want {
			t.Errorf("%d: %d, not %d", i, got, x.want)
		}
	}
}

// P1.1 and R1: products that would wrap around, to a negative number or to 0.
func TestTotalDoesNotWrap(t *testing.T) {
	for i, l := range [][]api.Var{many(6, 1, 1000), many(6, -499, 1000), many(6, -1000, 1000), many(7, -23, 1000), many(64, 0, 1)} {
		if dom.Total(l) != 0 || dom.May(l) != api.ErrFull {
			t.Errorf("%d: %d, %d", i, dom.Total(l), dom.May(l))
		}
	}
}

// P1.2: the example of the document.
func TestExample(t *testing.T) {
	l := []api.Var{flag("x"), span("y", 1, 3)}
	if values, ok := dom.Values(l, 5); !ok || !slices.Equal(values, []int{1, 3}) {
		t.Error(values, ok)
	}
}

// P1.2: each state has the values that counting gives it, and only those states are there.
func TestValues(t *testing.T) {
	for i, l := range validLists() {
		all := valuations(l)
		for state, want := range all {
			if got, ok := dom.Values(l, state); !ok || !slices.Equal(got, want) {
				t.Errorf("list %d, state %d: %v %v", i, state, got, ok)
			}
		}
		for _, state := range []int{-1, math.MinInt, len(all), len(all) + 1, math.MaxInt} {
			if got, ok := dom.Values(l, state); ok || got != nil {
				t.Errorf("list %d, state %d: %v %v", i, state, got, ok)
			}
		}
	}
	for i, l := range invalidLists() {
		if got, ok := dom.Values(l, 0); ok || got != nil {
			t.Errorf("invalid list %d: %v %v", i, got, ok)
		}
	}
}

// P1.2: State.
func TestState(t *testing.T) {
	for i, l := range validLists() {
		for want, values := range valuations(l) {
			if got, ok := dom.State(l, values); !ok || got != want {
				t.Errorf("list %d, values %v: %d %v", i, values, got, ok)
			}
		}
	}
	l := []api.Var{flag("x"), span("y", 1, 3), span("z", -1, 0)}
	for _, values := range [][]int{
		nil, {}, {1}, {1, 3}, {1, 3, 0, 0},
		{2, 3, 0}, {-1, 3, 0}, {1, 0, 0}, {1, 4, 0}, {1, 3, 1}, {1, 3, -2},
		{math.MinInt, 3, 0}, {math.MaxInt, 3, 0}, {1, math.MinInt, 0}, {1, math.MaxInt, 0}, {1, 3, math.MinInt}, {1, 3, math.MaxInt},
	} {
		if got, ok := dom.State(l, values); ok || got != 0 {
			t.Errorf("values %v: %d %v", values, got, ok)
		}
	}
	if got, ok := dom.State(nil, []int{0}); ok || got != 0 {
		t.Error("a value without a variable")
	}
	for i, l := range invalidLists() {
		if got, ok := dom.State(l, make([]int, len(l))); ok || got != 0 {
			t.Errorf("invalid list %d: %d %v", i, got, ok)
		}
	}
}

// P1.2: With changes one value and keeps all others.
func TestWith(t *testing.T) {
	for i, l := range validLists() {
		all := valuations(l)
		for state, values := range all {
			if state > 70 {
				break
			}
			for v := range l {
				for value := -8; value <= 13; value++ {
					want := slices.Clone(values)
					want[v] = value
					place := slices.IndexFunc(all, func(x []int) bool { return slices.Equal(x, want) })
					got, ok := dom.With(l, state, v, value)
					if ok != (place >= 0) || got != max(place, 0) {
						t.Errorf("list %d, state %d, variable %d, value %d: %d %v", i, state, v, value, got, ok)
					}
				}
			}
		}
	}
}

// P1.2: With, and what is wrong for it.
func TestWithWrong(t *testing.T) {
	l := []api.Var{flag("x"), span("y", 1, 3)}
	for i, x := range []struct{ state, v, value int }{
		{-1, 0, 0}, {6, 0, 0}, {math.MinInt, 0, 0}, {math.MaxInt, 0, 0},
		{5, -1, 0}, {5, 2, 1}, {5, math.MinInt, 0}, {5, math.MaxInt, 0},
		{5, 0, 2}, {5, 0, -1}, {5, 1, 0}, {5, 1, 4}, {5, 1, math.MinInt}, {5, 1, math.MaxInt},
	} {
		if got, ok := dom.With(l, x.state, x.v, x.value); ok || got != 0 {
			t.Errorf("%d: %d %v", i, got, ok)
		}
	}
	if got, ok := dom.With(nil, 0, 0, 0); ok || got != 0 {
		t.Error("no variables")
	}
	for i, l := range invalidLists() {
		if got, ok := dom.With(l, 0, 0, 0); ok || got != 0 {
			t.Errorf("invalid list %d: %d %v", i, got, ok)
		}
	}
}

// P1.3: Part keeps the values of one side, and sets those of the other to their first ones.
func TestPart(t *testing.T) {
	for i, l := range validLists() {
		all := valuations(l)
		for state, values := range all {
			for _, env := range []bool{true, false} {
				want := slices.Clone(values)
				for v := range l {
					if l[v].Env != env {
						want[v] = l[v].Low
					}
				}
				got := dom.Part(l, state, env)
				if got < 0 || got >= len(all) || !slices.Equal(all[got], want) {
					t.Errorf("list %d, state %d, env %v: %d", i, state, env, got)
				}
			}
		}
		for _, state := range []int{-1, len(all), math.MinInt, math.MaxInt} {
			if dom.Part(l, state, true) != -1 || dom.Part(l, state, false) != -1 {
				t.Errorf("list %d, state %d", i, state)
			}
		}
	}
	for i, l := range invalidLists() {
		if dom.Part(l, 0, true) != -1 || dom.Part(l, 0, false) != -1 {
			t.Errorf("invalid list %d", i)
		}
	}
}

// P1.3: Find looks at the names alone.
func TestFind(t *testing.T) {
	l := []api.Var{flag("x"), span("y", 1, 0), {Name: ""}, {Name: "y"}, {Name: "X"}}
	for name, want := range map[string]int{"x": 0, "y": 1, "": 2, "X": 4, "z": -1, "x ": -1, "xy": -1} {
		if got := dom.Find(l, name); got != want {
			t.Errorf("%q: %d", name, got)
		}
	}
	if dom.Find(nil, "") != -1 || dom.Find([]api.Var{}, "x") != -1 {
		t.Error("no variables")
	}
}

// P1.4: there and back again, from both ends.
func TestInverse(t *testing.T) {
	for i, l := range validLists() {
		for state := range dom.Total(l) {
			values, ok := dom.Values(l, state)
			back, again := dom.State(l, values)
			if !ok || !again || back != state {
				t.Errorf("list %d: %d became %d", i, state, back)
			}
		}
		for _, values := range valuations(l) {
			state, ok := dom.State(l, values)
			back, again := dom.Values(l, state)
			if !ok || !again || !slices.Equal(back, values) {
				t.Errorf("list %d: %v became %v", i, values, back)
			}
		}
	}
}

// R2: arguments stay as they are, also beyond their length, and results are new memory.
func TestMemory(t *testing.T) {
	room := []api.Var{flag("x"), span("y", 1, 3), flag("x")}
	given := slices.Clone(room)
	l := room[:2]
	valueRoom := []int{1, 3, 77}
	values := valueRoom[:2]
	if dom.May(l) != api.OK || dom.Total(l) != 6 || dom.Find(l, "x") != 0 {
		t.Error("what lies beyond the list was read")
	}
	if state, ok := dom.State(l, values); !ok || state != 5 {
		t.Error("State", state, ok)
	}
	first, _ := dom.Values(l, 5)
	second, _ := dom.Values(l, 5)
	first[0] = 99
	if !slices.Equal(second, []int{1, 3}) {
		t.Error("two results share memory")
	}
	dom.With(l, 5, 1, 1)
	dom.Part(l, 5, true)
	if !slices.Equal(room, given) || !slices.Equal(valueRoom, []int{1, 3, 77}) {
		t.Error("an argument was changed")
	}
}
