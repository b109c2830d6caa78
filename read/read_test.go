package read_test

import (
	"fmt"
	"math/rand"
	"reflect"
	"strings"
	"testing"

	"parry/api"
	"parry/module"
	"parry/read"
	"parry/show"
	"parry/sort"
)

const (
	truth = api.SBool
	whole = api.SInt
)

func leaf(op, n int) api.Expr { return api.Expr{Op: op, N: n} }

func node(op int, kids ...api.Expr) api.Expr { return api.Expr{Op: op, Kids: kids} }

func num(n int) api.Expr { return leaf(api.ENum, n) }

func flag(n int) api.Expr { return leaf(api.EBool, n) }

func now(n int) api.Expr { return leaf(api.EVar, n) }

func next(n int) api.Expr { return leaf(api.ENext, n) }

func set(v int, e api.Expr) api.Set { return api.Set{Var: v, E: e} }

func free(v int) api.Set { return api.Set{Var: v, Any: true} }

func command(guard api.Expr, sets ...api.Set) api.Command {
	return api.Command{Guard: guard, Sets: sets}
}

// vars: each sort on each side, the sides mixed; a name may be a word of the texts, as long, or part of another one.
func vars() []api.Var {
	return []api.Var{
		{Name: "do", Env: true, Sort: truth},
		{Name: "b", Sort: whole, Low: -1, High: 2},
		{Name: "do_2", Sort: truth},
		{Name: "d45678901234567_", Env: true, Sort: whole, Low: -5, High: -3},
	}
}

// heads declare vars.
const heads = "env do : bool; sys b : -1..2; sys do_2 : bool; env d45678901234567_ : -5..-3; "

func wantTree(t *testing.T, l []api.Var, s string, want api.Expr) {
	t.Helper()
	got, at, err := read.Expr(l, s)
	if !reflect.DeepEqual(got, want) || at != 0 || err != api.OK {
		t.Errorf("%q: %v, %d, %d, not %v", s, got, at, err, want)
	}
}

func wantFault(t *testing.T, l []api.Var, s string, wantAt int, want api.Errno) {
	t.Helper()
	got, at, err := read.Expr(l, s)
	if !reflect.DeepEqual(got, api.Expr{}) || at != wantAt || err != want {
		t.Errorf("%q: %v, %d, %d, not %d, %d", s, got, at, err, wantAt, want)
	}
}

func wantMade(t *testing.T, s string, want api.Module) {
	t.Helper()
	got, at, err := read.Module(s)
	if !reflect.DeepEqual(got, want) || at != 0 || err != api.OK {
		t.Errorf("%q: %v, %d, %d, not %v", s, got, at, err, want)
	}
}

func wantUnmade(t *testing.T, s string, wantAt int, want api.Errno) {
	t.Helper()
	got, at, err := read.Module(s)
	if !reflect.DeepEqual(got, api.Module{}) || at != wantAt || err != want {
		t.Errorf("%q: %v, %d, %d, not %d, %d", s, got, at, err, wantAt, want)
	}
}

// P8.1: each kind of expression, and blanks where they are permitted.
func TestExpr(t *testing.T) {
	for _, x := range []struct {
		s    string
		want api.Expr
	}{
		{"0", num(0)}, {"7", num(7)}, {"007", num(7)}, {"-7", num(-7)}, {"-\t\n 7", num(-7)}, {"-0", num(0)}, {"-000", num(0)},
		{"true", flag(1)}, {"false", flag(0)}, {"\n\t true \t\n", flag(1)},
		{"do", now(0)}, {"b", now(1)}, {"do_2", now(2)}, {"d45678901234567_", now(3)},
		{"do'", next(0)}, {"do_2\n'", next(2)}, {" b ' ", next(1)},
		{"(not do)", node(api.ENot, now(0))},
		{"(not(not do'))", node(api.ENot, node(api.ENot, next(0)))},
		{"(do and do_2)", node(api.EAnd, now(0), now(2))},
		{"(do or do_2)", node(api.EOr, now(0), now(2))},
		{"(do => do_2)", node(api.EThen, now(0), now(2))},
		{"(do = do_2)", node(api.ESame, now(0), now(2))},
		{"(b < 1)", node(api.ELess, now(1), num(1))},
		{"(b <= 1)", node(api.EMost, now(1), num(1))},
		{"(b + 1)", node(api.EAdd, now(1), num(1))},
		{"(b - 1)", node(api.ESub, now(1), num(1))},
		{"(b * 1)", node(api.EMul, now(1), num(1))},
		{"(b-1)", node(api.ESub, now(1), num(1))},
		{"(b -1)", node(api.ESub, now(1), num(1))},
		{"(b--1)", node(api.ESub, now(1), num(-1))},
		{"(-1-b)", node(api.ESub, num(-1), now(1))},
		{"(b<-1)", node(api.ELess, now(1), num(-1))},
		{"(b<=-1)", node(api.EMost, now(1), num(-1))},
		{"(b'=b')", node(api.ESame, next(1), next(1))},
		{"(do'=>do')", node(api.EThen, next(0), next(0))},
		{"(if do then 1 else b)", node(api.EIf, now(0), num(1), now(1))},
		{"(if(not do)then(1+2)else-3)", node(api.EIf, node(api.ENot, now(0)), node(api.EAdd, num(1), num(2)), num(-3))},
		{"((1<2)and(2<3))", node(api.EAnd, node(api.ELess, num(1), num(2)), node(api.ELess, num(2), num(3)))},
		{"((1 - 2) - (3 - 4))", node(api.ESub, node(api.ESub, num(1), num(2)), node(api.ESub, num(3), num(4)))},
		{"(if (if do then do_2 else true) then (if false then 1 else 2) else 3)", node(api.EIf, node(api.EIf, now(0), now(2), flag(1)), node(api.EIf, flag(0), num(1), num(2)), num(3))},
	} {
		wantTree(t, vars(), x.s, x.want)
	}
	wantTree(t, nil, "1", num(1))
	wantTree(t, []api.Var{}, "(true=false)", node(api.ESame, flag(1), flag(0)))
	// The example of the chapter.
	l := []api.Var{{Name: "x", Sort: truth}, {Name: "y", Sort: truth}}
	wantTree(t, l, "(x and (not y'))", node(api.EAnd, now(0), node(api.ENot, next(1))))
}

// P8.1: a word that does not fit, at its first byte, or at the end of the text.
func TestExprForm(t *testing.T) {
	for _, x := range []struct {
		s  string
		at int
	}{
		{"", 0}, {" ", 1}, {"\n\t ", 3},
		{"(", 1}, {"( ", 2}, {"(do", 3}, {"(do ", 4}, {"(do and", 7}, {"(do and do", 10}, {"(not", 4}, {"(not do", 7}, {"-", 1}, {"- ", 2},
		{"(if", 3}, {"(if do", 6}, {"(if do then", 11}, {"(if do then 1", 13}, {"(if do then 1 else", 18}, {"(if do then 1 else 2", 20},
		{"()", 1}, {"(do)", 3}, {"(1)", 2}, {"(-1)", 3}, {"(true)", 5}, {"((do and do))", 12}, {")", 0}, {"(do and do))", 11},
		{"do do", 3}, {"1 1", 2}, {"do'1", 3}, {"1b", 1}, {"true false", 5}, {"do''", 3}, {"do' '", 4}, {"1'", 1}, {"true'", 4}, {"(not do)'", 8}, {"'", 0}, {"'do", 0},
		{"do and do_2", 3}, {"not do", 0}, {"if do then 1 else 2", 0}, {"b + 1", 2}, {"- b", 2}, {"-(b + 1)", 1}, {"--1", 1}, {"+1", 0}, {"- true", 2},
		{"(not do do)", 8}, {"(do not do)", 4}, {"(do and not do)", 8}, {"(not)", 4}, {"(and do)", 1}, {"(do do)", 4}, {"(do and and)", 8}, {"(do and do and do)", 11},
		{"(if do 1 else 2)", 7}, {"(if do else 1 then 2)", 7}, {"(if do then 1 then 2)", 14}, {"(if do then 1)", 13}, {"(if do then 1 else 2 3)", 21}, {"(if then 1 else 2)", 4}, {"(do then 1)", 4},
		{"(b = = 1)", 5}, {"(b == 1)", 4}, {"(b < = 1)", 5}, {"(b = < 1)", 5}, {"(b =< 1)", 4}, {"(do = > do)", 6}, {"(do <=> do)", 6}, {"(do==>do)", 4}, {"(b : 1)", 3}, {"(b := 1)", 3}, {"(b .. 1)", 3}, {"(b , 1)", 3}, {"(b ; 1)", 3}, {"b;", 1}, {"b,", 1}, {"(b ( 1)", 3}, {"(b ' ' 1)", 5}, {"(b +- -1)", 6},
		{"bool", 0}, {"int", 0}, {"env", 0}, {"sys", 0}, {"init", 0}, {"when", 0}, {"assume", 0}, {"ensure", 0}, {"prio", 0}, {"any", 0}, {"if", 0}, {"then", 0}, {"else", 0}, {"not", 0}, {"and", 0}, {"or", 0}, {"(do and any)", 8},
		{"$", 0}, {" $", 1}, {"do$", 2}, {"(do $ do)", 4}, {"B", 0}, {"bO", 1}, {"(1and1)", 2}, {"_b", 0}, {"1_", 1}, {".", 0}, {"1.", 1}, {"1.2", 1}, {"(b . 1)", 3}, {"(b > 1)", 3}, {"b\r", 1}, {"\r", 0}, {"b\x00", 1}, {"\v", 0}, {"bé", 1}, {"é", 0}, {"\xff", 0}, {"(b /1)", 3}, {"\"b\"", 0}, {"b`", 1}, {"{b}", 0}, {"b//", 1}, {"\u00a0b", 0},
	} {
		wantFault(t, vars(), x.s, x.at, api.ErrForm)
	}
}

// P8.1: a byte that begins no word, each of them, ahead of everything and after everything.
func TestEachByte(t *testing.T) {
	for c := range 256 {
		s := string([]byte{byte(c)})
		if strings.Contains(" \t\n", s) || 'a' <= c && c <= 'z' || '0' <= c && c <= '9' || strings.Contains(":;,=<+-*()'", s) {
			continue
		}
		wantFault(t, vars(), s+"b", 0, api.ErrForm)
		if s != "_" {
			wantFault(t, vars(), "b"+s, 1, api.ErrForm)
		}
		wantFault(t, vars(), "(b "+s+"+ 1)", 3, api.ErrForm)
		wantUnmade(t, "prio true;"+s, 10, api.ErrForm)
	}
}

// P8.1: names that no variable has.
func TestExprName(t *testing.T) {
	long := strings.Repeat("a", 17)
	for _, x := range []struct {
		s  string
		at int
	}{
		{"w", 0}, {" w", 1}, {"w'", 0}, {"doo", 0}, {"d", 0}, {"do_", 0}, {"bool_", 0}, {"ands", 0}, {"i", 0}, {"(b + w)", 5}, {"(w + v)", 1}, {"(not w)", 5}, {"(if do then w else 1)", 12},
		{"d45678901234567", 0}, {"d45678901234567__", 0}, {long, 0}, {"(b + " + long + ")", 5}, {strings.Repeat("a", 8000), 0}, {"trues", 0}, {"true1", 0},
	} {
		wantFault(t, vars(), x.s, x.at, api.ErrName)
	}
	wantFault(t, nil, "do", 0, api.ErrName)
	// A name where an operation is expected does not fit.
	wantFault(t, vars(), "(b and1)", 3, api.ErrForm)
	// Beyond the length of the variables there is none.
	wantFault(t, vars()[:2], "do_2", 0, api.ErrName)
}

// P8.1: the greatest number, and one more, whatever is expected there.
func TestNumbers(t *testing.T) {
	wantTree(t, vars(), "1000", num(1000))
	wantTree(t, vars(), "-1000", num(-1000))
	wantTree(t, vars(), "0001000", num(1000))
	wantTree(t, vars(), strings.Repeat("0", 7999)+"9", num(9))
	wantTree(t, vars(), strings.Repeat("0", 8000), num(0))
	wantTree(t, vars(), "(1000 + -1000)", node(api.EAdd, num(1000), num(-1000)))
	for _, x := range []struct {
		s  string
		at int
	}{
		{"1001", 0}, {" 1001", 1}, {"01001", 0}, {"-1001", 1}, {"- 1001", 2}, {"9999", 0}, {"10000", 0}, {"(b + 1001)", 5}, {"(1001 + b)", 1},
		{"18446744073709551616", 0}, {"9223372036854775808", 0}, {"18446744073709551617", 0}, {strings.Repeat("9", 8000), 0}, {"1" + strings.Repeat("0", 64), 0},
		// Where no number fits.
		{"b 1001", 2}, {"(1001", 1}, {"(b 1001", 3}, {"(if b 1001", 6}, {"(not b 1001", 7}, {"b'1001", 2}, {"1000 1001", 5}, {"b' 1001 $", 3}, {"-1 1001", 3},
		{"1001b", 0}, {"1001$", 0},
	} {
		wantFault(t, vars(), x.s, x.at, api.ErrOver)
	}
	wantFault(t, vars(), "1000b", 4, api.ErrForm)
	wantFault(t, vars(), "b1001", 0, api.ErrName)
	wantFault(t, vars(), "(b do 1001)", 3, api.ErrForm)
}

// P8.1: a text of MaxText bytes, and one more.
func TestLong(t *testing.T) {
	pad := strings.Repeat(" ", api.MaxText-1)
	wantTree(t, vars(), "b"+pad, now(1))
	wantTree(t, vars(), pad+"b", now(1))
	wantTree(t, vars(), "(1+"+pad[:api.MaxText-5]+"2)", node(api.EAdd, num(1), num(2)))
	wantFault(t, vars(), "b"+pad+" ", 0, api.ErrFull)
	wantFault(t, vars(), pad+"\n ", 0, api.ErrFull)
	wantFault(t, vars(), pad+"b ", 0, api.ErrFull)
	wantFault(t, vars(), pad+" ", api.MaxText, api.ErrForm)
	wantFault(t, vars(), pad+"$", api.MaxText-1, api.ErrForm)
	wantFault(t, vars(), pad+"w", api.MaxText-1, api.ErrName)
	wantFault(t, vars(), "$"+pad+"$", 0, api.ErrFull)
	wantFault(t, vars(), strings.Repeat("(", 1<<20), 0, api.ErrFull)
	wantMade(t, pad+" ", api.Module{InitEnv: flag(1), InitSys: flag(1)})
	wantUnmade(t, pad+"$", api.MaxText-1, api.ErrForm)
	wantUnmade(t, pad+"  ", 0, api.ErrFull)
	wantUnmade(t, "$"+pad+" ", 0, api.ErrFull)
	wantUnmade(t, strings.Repeat("env x : bool;", 1<<16), 0, api.ErrFull)
}

// nest is what stands in n parentheses, each of them in the one before it, with form between.
func nest(n int, form, inner string) string {
	return strings.Repeat(form, n) + inner
}

// P8.1: a hundred parentheses, and one more.
func TestNested(t *testing.T) {
	for _, form := range []string{"(", "(not ", "( ", "(b + ", "(if ", "(if do then ", "(if do then 1 else "} {
		size := len(form)
		wantFault(t, vars(), nest(100, form, ""), 100*size, api.ErrForm)
		wantFault(t, vars(), nest(100, form, "w"), 100*size, api.ErrName)
		wantFault(t, vars(), nest(100, form, "1001"), 100*size, api.ErrOver)
		wantFault(t, vars(), nest(100, form, "("), 100*size, api.ErrFull)
		wantFault(t, vars(), nest(100, form, "(w"), 100*size, api.ErrFull)
		wantFault(t, vars(), nest(100, form, "($"), 100*size, api.ErrFull)
		wantFault(t, vars(), nest(99, form, "($"), 99*size+1, api.ErrForm)
		wantFault(t, vars(), nest(102, form, ""), 100*size, api.ErrFull)
		// What does not fit is no parenthesis too many.
		wantFault(t, vars(), nest(100, form, ")"), 100*size, api.ErrForm)
	}
	wantFault(t, vars(), nest(100, "(not ", "do ("), 503, api.ErrForm)
	wantFault(t, vars(), nest(100, "(not ", "-("), 501, api.ErrForm)
	// All of them are closed again: then the expression is too deep.
	wantFault(t, vars(), nest(100, "(not ", "do")+strings.Repeat(")", 100), 0, api.ErrFull)
	wantFault(t, vars(), nest(100, "(not ", "do")+strings.Repeat(")", 100)+"$", 602, api.ErrForm)
	wantFault(t, vars(), nest(100, "(not ", "do")+strings.Repeat(")", 99), 601, api.ErrForm)
	// A parenthesis that is closed counts no more.
	wide := "w"
	for range 8 {
		wide = "(" + wide + " and " + wide + ")"
	}
	good := strings.ReplaceAll(wide, "w", "do")
	wantFault(t, vars(), good, 0, api.ErrFull)
	wantFault(t, vars(), good+" w", len(good)+1, api.ErrForm)
	wantFault(t, vars(), nest(99, "(", "(not do)")+" and w", 99+8+5, api.ErrName)
	wantFault(t, vars(), nest(99, "(", "(not do)")+" and (not w)", 99+8+5+5, api.ErrName)
	wantFault(t, vars(), nest(99, "(", "(not do)")+" and (not (", 99+8+5+5, api.ErrFull)
	wantMade(t, strings.Repeat("init env (not true);", 300)+strings.Repeat("init sys (not(not false));", 76), api.Module{InitEnv: node(api.ENot, flag(1)), InitSys: node(api.ENot, node(api.ENot, flag(0)))})
	wantUnmade(t, "init env "+nest(101, "(not ", ""), 509, api.ErrFull)
	wantUnmade(t, "init env "+nest(100, "(not ", ""), 509, api.ErrForm)
	wantUnmade(t, "init env "+nest(100, "(not ", "true")+strings.Repeat(")", 100)+";", 0, api.ErrFull)
	wantMade(t, "init env "+nest(100, "(not ", "true")+strings.Repeat(")", 100)+"; init env false;", api.Module{InitEnv: flag(0), InitSys: flag(1)})
	wantUnmade(t, "env when "+nest(100, "(not ", "true")+strings.Repeat(")", 100)+"; prio "+nest(101, "(", ""), 9+604+7+100, api.ErrFull)
}

// P8.1: the errors of sort.Of, which have no position.
func TestExprSort(t *testing.T) {
	for _, x := range []struct {
		s    string
		want api.Errno
	}{
		{"(not b)", api.ErrSort}, {" (do and 1)", api.ErrSort}, {"(b + do)", api.ErrSort}, {"(do = b)", api.ErrSort}, {"(do < do)", api.ErrSort}, {"(if do then do else b)", api.ErrSort}, {"(if 1 then 1 else 1)", api.ErrSort},
		{nest(11, "(not ", "b") + strings.Repeat(")", 11), api.ErrSort},
		{nest(12, "(not ", "b") + strings.Repeat(")", 12), api.ErrFull},
		{nest(12, "(not ", "do") + strings.Repeat(")", 12), api.ErrFull},
	} {
		wantFault(t, vars(), x.s, 0, x.want)
	}
	wantTree(t, vars(), nest(11, "(not ", "do")+strings.Repeat(")", 11), tall(12, now(0)))
	// As many nodes as there may be, and more.
	wantTree(t, nil, "(not "+broadText(30)+")", node(api.ENot, broad(30)))
	wantFault(t, nil, broadText(31), 0, api.ErrFull)
	wantFault(t, nil, "("+broadText(500)+" + 1)", 0, api.ErrFull)
}

func tall(deep int, e api.Expr) api.Expr {
	for range deep - 1 {
		e = node(api.ENot, e)
	}
	return e
}

// broad has 2 n - 1 nodes.
func broad(n int) api.Expr {
	if n == 1 {
		return flag(1)
	}
	return node(api.EAnd, broad(n/2), broad(n-n/2))
}

func broadText(n int) string {
	if n == 1 {
		return "true"
	}
	return "(" + broadText(n/2) + " and " + broadText(n-n/2) + ")"
}

// P8.1: the variables come first, whatever the text is.
func TestExprVars(t *testing.T) {
	long := strings.Repeat(" ", api.MaxText+1)
	for i, x := range []struct {
		l    []api.Var
		want api.Errno
	}{
		{[]api.Var{{Name: "", Sort: truth}}, api.ErrName},
		{[]api.Var{{Name: "not", Sort: truth}}, api.ErrName},
		{[]api.Var{{Name: "x", Sort: truth}, {Name: "x", Sort: truth}}, api.ErrName},
		{[]api.Var{{Name: "x"}}, api.ErrSort},
		{[]api.Var{{Name: "x", Sort: truth, Low: 1}}, api.ErrOver},
		{[]api.Var{{Name: "x", Sort: whole, Low: 1}}, api.ErrOver},
		{[]api.Var{{Name: "x", Sort: whole, High: 512}}, api.ErrFull},
		{make([]api.Var, 1<<16), api.ErrName},
	} {
		for _, s := range []string{"x", "", "$", "1001", "w", "(not 1)", long, nest(101, "(", "")} {
			got, at, err := read.Expr(x.l, s)
			if !reflect.DeepEqual(got, api.Expr{}) || at != 0 || err != x.want {
				t.Errorf("%d, %.20q: %d, %d", i, s, at, err)
			}
		}
	}
}

// P8.1: of several errors the first one from the left; and one in the text ahead of that of sort.Of.
func TestExprOrder(t *testing.T) {
	for _, x := range []struct {
		s    string
		at   int
		want api.Errno
	}{
		{"(w + 1001)", 1, api.ErrName}, {"(1001 + w)", 1, api.ErrOver}, {"(w $", 1, api.ErrName}, {"($ w", 1, api.ErrForm}, {"w$", 0, api.ErrName}, {"w1001", 0, api.ErrName}, {"w 1001", 0, api.ErrName}, {"w''", 0, api.ErrName}, {"w (", 0, api.ErrName},
		{"(not b) $", 8, api.ErrForm}, {"(not b) 1001", 8, api.ErrOver}, {"(not b) w", 8, api.ErrForm}, {"((not b) and w)", 13, api.ErrName}, {"((not b) and", 12, api.ErrForm},
		{"(do do 1001)", 4, api.ErrForm}, {"(do ) $", 4, api.ErrForm}, {"(not do w $)", 8, api.ErrForm}, {"b w", 2, api.ErrForm}, {"b ) 1001", 2, api.ErrForm},
		{"(if w then $ else 1001)", 4, api.ErrName}, {"(if do then $ else 1001)", 12, api.ErrForm}, {"(if do then 1 else 1001) $", 19, api.ErrOver}, {"(if b then do else 1) )", 22, api.ErrForm},
		{nest(13, "(not ", "w"), 65, api.ErrName}, {nest(13, "(not ", "do"), 67, api.ErrForm},
	} {
		wantFault(t, vars(), x.s, x.at, x.want)
	}
}

// P8.2: each kind of statement.
func TestModule(t *testing.T) {
	blank := api.Module{InitEnv: flag(1), InitSys: flag(1)}
	wantMade(t, "", blank)
	wantMade(t, " \t\n", blank)
	m := blank
	m.Vars = vars()
	wantMade(t, heads, m)
	wantMade(t, "env do:bool;sys b:-1..2;sys do_2:bool;env d45678901234567_:-5..-3;", m)
	wantMade(t, "env\ndo\n:\nbool\n;\nsys b : - 1 .. 02 ; sys do_2 : bool ; env\td45678901234567_ : -\t0005\t..\n-\n3;", m)
	for _, x := range []struct {
		s      string
		change func(m *api.Module)
	}{
		{"init env do;", func(m *api.Module) { m.InitEnv = now(0) }},
		{"init sys do_2;", func(m *api.Module) { m.InitSys = now(2) }},
		{"init sys (do and do_2);init env (not do);", func(m *api.Module) {
			m.InitEnv, m.InitSys = node(api.ENot, now(0)), node(api.EAnd, now(0), now(2))
		}},
		{"init env do; init sys false; init env (not do); init sys do;", func(m *api.Module) { m.InitEnv, m.InitSys = node(api.ENot, now(0)), now(0) }},
		{"init env false; init env true;", func(m *api.Module) {}},
		// One that does not count may be of the wrong sort.
		{"init env b; init env (1 and 2); init env do; init sys 1; init sys do;", func(m *api.Module) { m.InitEnv, m.InitSys = now(0), now(0) }},
		{"env when do;", func(m *api.Module) { m.Env = []api.Command{command(now(0))} }},
		{"env when do do do := any;", func(m *api.Module) { m.Env = []api.Command{command(now(0), free(0))} }},
		{"env when do do do := do;", func(m *api.Module) { m.Env = []api.Command{command(now(0), set(0, now(0)))} }},
		{"env when(not do)do do:=any,d45678901234567_:=-4;", func(m *api.Module) {
			m.Env = []api.Command{command(node(api.ENot, now(0)), free(0), set(3, num(-4)))}
		}},
		{"sys when do' do b := (b + 1), do_2 := do';", func(m *api.Module) {
			m.Sys = []api.Command{command(next(0), set(1, node(api.EAdd, now(1), num(1))), set(2, next(0)))}
		}},
		{"sys when true; env when false; sys when do; env when do_2;", func(m *api.Module) {
			m.Env = []api.Command{command(flag(0)), command(now(2))}
			m.Sys = []api.Command{command(flag(1)), command(now(0))}
		}},
		{"ensure do; assume do_2; ensure (b < 1); assume true;", func(m *api.Module) {
			m.Assume, m.Ensure = []api.Expr{now(2), flag(1)}, []api.Expr{now(0), node(api.ELess, now(1), num(1))}
		}},
		{"prio do; prio do_2; prio true;", func(m *api.Module) { m.Prio = []api.Expr{now(0), now(2), flag(1)} }},
		{"env e : 1000..1000; sys f : -1000..-1000; assume (e = f);", func(m *api.Module) {
			m.Vars = append(m.Vars, api.Var{Name: "e", Env: true, Sort: whole, Low: 1000, High: 1000}, api.Var{Name: "f", Sort: whole, Low: -1000, High: -1000})
			m.Assume = []api.Expr{node(api.ESame, now(4), now(5))}
		}},
		// A statement between the variables reads those before it.
		{"prio do; sys b2 : -0..0; prio (b2 = b);", func(m *api.Module) {
			m.Vars = append(m.Vars, api.Var{Name: "b2", Sort: whole})
			m.Prio = []api.Expr{now(0), node(api.ESame, now(4), now(1))}
		}},
	} {
		want := blank
		want.Vars = vars()
		x.change(&want)
		wantMade(t, heads+x.s, want)
	}
}

// P8.2: texts that are none, after the declarations.
func TestModuleForm(t *testing.T) {
	for _, x := range []struct {
		s    string
		at   int
		want api.Errno
	}{
		{";", 0, api.ErrForm}, {"do", 0, api.ErrForm}, {"when do;", 0, api.ErrForm}, {"true", 0, api.ErrForm}, {"1", 0, api.ErrForm}, {"1001", 0, api.ErrOver}, {"(", 0, api.ErrForm}, {"bool", 0, api.ErrForm}, {"environment", 0, api.ErrForm}, {"prio do;;", 8, api.ErrForm}, {"$", 0, api.ErrForm},
		{"env", 3, api.ErrForm}, {"sys ", 4, api.ErrForm}, {"env ;", 4, api.ErrForm}, {"env env : bool;", 4, api.ErrForm}, {"sys int : bool;", 4, api.ErrForm}, {"env 1 : bool;", 4, api.ErrForm}, {"env 1001 : bool;", 4, api.ErrOver}, {"env true : bool;", 4, api.ErrForm}, {"env (x) : bool;", 4, api.ErrForm}, {"env X : bool;", 4, api.ErrForm},
		{"env x", 5, api.ErrForm}, {"env x ;", 6, api.ErrForm}, {"env x bool;", 6, api.ErrForm}, {"env x := bool;", 6, api.ErrForm}, {"env x, y : bool;", 5, api.ErrForm}, {"env x' : bool;", 5, api.ErrForm},
		{"env x :", 7, api.ErrForm}, {"env x : ;", 8, api.ErrForm}, {"env x : int;", 8, api.ErrForm}, {"env x : do;", 8, api.ErrForm}, {"env x : bool", 12, api.ErrForm}, {"env x : bool prio", 13, api.ErrForm}, {"env x : bool..1;", 12, api.ErrForm}, {"env x : booleans;", 8, api.ErrForm},
		{"env x : 1", 9, api.ErrForm}, {"env x : 1;", 9, api.ErrForm}, {"env x : 1.2;", 9, api.ErrForm}, {"env x : 1 . . 2;", 10, api.ErrForm}, {"env x : 1...2;", 11, api.ErrForm}, {"env x : 1..", 11, api.ErrForm}, {"env x : 1..;", 11, api.ErrForm}, {"env x : 1..bool;", 11, api.ErrForm}, {"env x : 1..--2;", 12, api.ErrForm}, {"env x : -..2;", 9, api.ErrForm}, {"env x : 1..-;", 12, api.ErrForm}, {"env x : ..2;", 8, api.ErrForm}, {"env x : 1..2", 12, api.ErrForm}, {"env x : 1..2 3;", 13, api.ErrForm}, {"env x : (1)..2;", 8, api.ErrForm}, {"env x : +1..2;", 8, api.ErrForm}, {"env x : 1, 2;", 9, api.ErrForm},
		{"env x : 1001..2;", 8, api.ErrOver}, {"env x : 1..1001;", 11, api.ErrOver}, {"env x : -1001..2;", 9, api.ErrOver}, {"env x : 1..-1001;", 12, api.ErrOver}, {"env x : bool 1001;", 13, api.ErrOver}, {"env x 1001", 6, api.ErrOver},
		{"init", 4, api.ErrForm}, {"init do;", 5, api.ErrForm}, {"init when do;", 5, api.ErrForm}, {"init env", 8, api.ErrForm}, {"init env ;", 9, api.ErrForm}, {"init env do", 11, api.ErrForm}, {"init env do do", 12, api.ErrForm}, {"init sys : bool;", 9, api.ErrForm}, {"init env when do;", 9, api.ErrForm}, {"init env any;", 9, api.ErrForm}, {"init env w;", 9, api.ErrName}, {"init 1001", 5, api.ErrOver},
		{"env when", 8, api.ErrForm}, {"env when;", 8, api.ErrForm}, {"env when : bool;", 9, api.ErrForm}, {"env when do", 11, api.ErrForm}, {"env when do do", 14, api.ErrForm}, {"env when do do;", 14, api.ErrForm}, {"env when do do do", 17, api.ErrForm}, {"env when do do do :=", 20, api.ErrForm}, {"env when do do do := ;", 21, api.ErrForm}, {"env when do do do := any", 24, api.ErrForm}, {"env when do do do := any,", 25, api.ErrForm}, {"env when do do do := any,;", 25, api.ErrForm}, {"env when do do do := any any;", 25, api.ErrForm}, {"env when do do do := any do := any;", 25, api.ErrForm}, {"env when do do do := any; do := any;", 26, api.ErrForm},
		{"env when do do do = any;", 18, api.ErrForm}, {"env when do do do : any;", 18, api.ErrForm}, {"env when do do do : = any;", 18, api.ErrForm}, {"env when do do do' := any;", 17, api.ErrForm}, {"env when do do any := do;", 15, api.ErrForm}, {"env when do do 1 := any;", 15, api.ErrForm}, {"env when do do true := any;", 15, api.ErrForm}, {"env when do, do := any;", 11, api.ErrForm}, {"env when do do := any;", 15, api.ErrForm}, {"env when do := any;", 12, api.ErrForm}, {"env when any;", 9, api.ErrForm}, {"env when do do do := (any);", 22, api.ErrForm}, {"env when do do (do) := any;", 15, api.ErrForm}, {"env when do do , do := any;", 15, api.ErrForm}, {"sys when when do;", 9, api.ErrForm}, {"env when do do do := any'", 24, api.ErrForm},
		{"env when w;", 9, api.ErrName}, {"env when do do w := any;", 15, api.ErrName}, {"env when do do do := w;", 21, api.ErrName}, {"env when do do do := any, w := any;", 26, api.ErrName}, {"env when do do w = any;", 15, api.ErrName}, {"env when do do w' := any;", 15, api.ErrName}, {"env when do w := any;", 12, api.ErrForm}, {"env when do do 1001", 15, api.ErrOver}, {"env when do 1001", 12, api.ErrOver},
		{"assume", 6, api.ErrForm}, {"assume ;", 7, api.ErrForm}, {"assume do", 9, api.ErrForm}, {"ensure do do", 10, api.ErrForm}, {"prio do, do;", 7, api.ErrForm}, {"prio env do;", 5, api.ErrForm}, {"assume any;", 7, api.ErrForm}, {"assume w;", 7, api.ErrName}, {"ensure w;", 7, api.ErrName}, {"prio w;", 5, api.ErrName}, {"prio 1001;", 5, api.ErrOver}, {"prio do 1001;", 8, api.ErrOver}, {"prio (do and);", 12, api.ErrForm},
		{"prio do; $", 9, api.ErrForm}, {"prio do; 1001", 9, api.ErrOver}, {"prio do; w", 9, api.ErrForm}, {"prio do; // prio do;", 9, api.ErrForm},
	} {
		wantUnmade(t, heads+x.s, len(heads)+x.at, x.want)
	}
}

// P8.2: names must have been declared before.
func TestDeclared(t *testing.T) {
	for _, x := range []struct {
		s  string
		at int
	}{
		{"init env x; env x : bool;", 9}, {"env when x; env x : bool;", 9}, {"env x : bool; env when x do y := any; env y : bool;", 28}, {"env x : bool; env when x do x := y; env y : bool;", 33}, {"prio y; env y : bool;", 5}, {"env x : bool; assume (x and y');", 28}, {"ensure x;", 7}, {"env xx : bool; prio x;", 20}, {"env x : bool; prio xx;", 19}, {"env averylongnamethatis : bool; prio averylongnamethati;", 37},
	} {
		wantUnmade(t, x.s, x.at, api.ErrName)
	}
}

// P8.2: the errors of module.May, which have no position.
func TestModuleMay(t *testing.T) {
	for _, x := range []struct {
		s    string
		want api.Errno
	}{
		{"env x : bool; sys x : bool;", api.ErrName}, {"env a2345678901234567 : bool;", api.ErrName}, {"env a2345678901234567 : bool; prio a2345678901234567;", api.ErrName}, {"env x : 2..1;", api.ErrOver}, {"env x : 1..-1;", api.ErrOver}, {"env x : 0..512;", api.ErrFull}, {"env x : -1000..1000;", api.ErrFull}, {"env a : bool; env b : bool; env c : bool; env d : bool; env e : bool; env f : bool; env g : bool;", api.ErrFull},
		{"init env 1;", api.ErrSort}, {"init sys 1;", api.ErrSort}, {"sys x : bool; init env x;", api.ErrName}, {"env x : bool; init sys x';", api.ErrNext}, {"init env true; init env 1;", api.ErrSort},
		{"env x : bool; env when x';", api.ErrNext}, {"sys x : bool; sys when x';", api.ErrNext}, {"env x : bool; sys when x do x := any;", api.ErrName}, {"env x : bool; env when x do x := any, x := any;", api.ErrName}, {"env x : bool; env when x do x := 1;", api.ErrSort}, {"env x : bool; env when true do " + strings.Repeat("x := any, ", 6) + "x := any;", api.ErrFull},
		{strings.Repeat("env when true;", 13), api.ErrFull}, {strings.Repeat("sys when true;", 13), api.ErrFull}, {strings.Repeat("assume true;", 5), api.ErrFull}, {strings.Repeat("ensure true;", 5), api.ErrFull}, {strings.Repeat("prio true;", 7), api.ErrFull},
		{"prio true; assume true;", api.ErrArg}, {"ensure true; prio true;", api.ErrArg}, {"assume 1;", api.ErrSort}, {"env x : bool; ensure x';", api.ErrNext}, {"prio " + broadText(31) + ";", api.ErrFull}, {"prio " + nest(12, "(not ", "true") + strings.Repeat(")", 12) + ";", api.ErrFull},
		{strings.Repeat("env x : bool;", 600), api.ErrName},
	} {
		wantUnmade(t, x.s, 0, x.want)
		// An error in the text comes ahead of it.
		wantUnmade(t, x.s+"$", len(x.s), api.ErrForm)
		wantUnmade(t, x.s+" prio w;", len(x.s)+6, api.ErrName)
		wantUnmade(t, x.s+"1001", len(x.s), api.ErrOver)
		wantUnmade(t, x.s+"prio "+nest(101, "(", ""), len(x.s)+105, api.ErrFull)
		wantUnmade(t, strings.TrimSuffix(x.s, ";"), len(x.s)-1, api.ErrForm)
		// And a text that is too long ahead of both.
		wantUnmade(t, x.s+strings.Repeat("$", api.MaxText), 0, api.ErrFull)
	}
}

// P8.2: as much of everything as there may be.
func TestModuleFull(t *testing.T) {
	m := api.Module{InitEnv: flag(1), InitSys: flag(1)}
	s, sets := "", ""
	for i := range api.MaxVars {
		name := string(rune('f' - i))
		m.Vars = append(m.Vars, api.Var{Name: name, Sort: truth})
		s += "sys " + name + ":bool;"
		sets += "," + name + ":=any"
	}
	for range api.MaxCmds {
		m.Env = append(m.Env, command(now(5)))
		c := command(flag(1))
		for v := range m.Vars {
			c.Sets = append(c.Sets, free(v))
		}
		m.Sys = append(m.Sys, c)
		s += "env when a;sys when true do " + sets[1:] + ";"
	}
	t.Run("goals", func(t *testing.T) {
		m, s := m, s
		for i := range api.MaxGoals {
			m.Assume, m.Ensure = append(m.Assume, now(i)), append(m.Ensure, now(i+1))
			s += fmt.Sprintf("assume %c;ensure %c;", 'f'-i, 'e'-i)
		}
		wantMade(t, s, m)
	})
	for i := range api.MaxPrio {
		m.Prio = append(m.Prio, now(i))
		s += fmt.Sprintf("prio %c;", 'f'-i)
	}
	wantMade(t, s, m)
}

// grow makes an expression of this sort that may read what it is told.
func grow(r *rand.Rand, l []api.Var, needs, deep int, old, env, sys bool) api.Expr {
	kid := func(needs int) api.Expr { return grow(r, l, needs, deep-1, old, env, sys) }
	if deep <= 1 || r.Intn(3) == 0 {
		v := r.Intn(len(l) + 1)
		switch {
		case v < len(l) && l[v].Sort == needs && r.Intn(2) == 0 && (l[v].Env && env || !l[v].Env && sys):
			return next(v)
		case v < len(l) && l[v].Sort == needs && (l[v].Env || old):
			return now(v)
		case needs == whole:
			return num(r.Intn(2001) - 1000)
		}
		return flag(r.Intn(2))
	}
	if r.Intn(5) == 0 {
		return node(api.EIf, kid(truth), kid(needs), kid(needs))
	}
	if needs == whole {
		return node(api.EAdd+r.Intn(3), kid(whole), kid(whole))
	}
	switch op := api.ENot + r.Intn(7); op {
	case api.ENot:
		return node(op, kid(truth))
	case api.ESame, api.ELess, api.EMost:
		return node(op, kid(whole), kid(whole))
	default:
		return node(op, kid(truth), kid(truth))
	}
}

func growCommand(r *rand.Rand, l []api.Var, env bool, deep int) api.Command {
	c := command(grow(r, l, truth, deep, true, !env, false))
	for _, v := range r.Perm(len(l)) {
		if l[v].Env != env || r.Intn(2) == 0 {
			continue
		}
		s := set(v, grow(r, l, l[v].Sort, deep, true, !env, false))
		if r.Intn(3) == 0 {
			s = free(v)
		}
		c.Sets = append(c.Sets, s)
	}
	return c
}

// growModule makes a valid module; deep expressions if deep is great.
func growModule(r *rand.Rand, deep int) api.Module {
	l := vars()[:r.Intn(5)]
	m := api.Module{
		Vars:    l,
		InitEnv: grow(r, l, truth, deep, false, false, false),
		InitSys: grow(r, l, truth, deep, true, false, false),
	}
	for range r.Intn(deep) {
		m.Env = append(m.Env, growCommand(r, l, true, deep))
	}
	for range r.Intn(deep) {
		m.Sys = append(m.Sys, growCommand(r, l, false, deep))
	}
	ranks := r.Intn(3) == 0
	for range r.Intn(deep) {
		e := grow(r, l, truth, deep, true, false, false)
		switch {
		case ranks:
			m.Prio = append(m.Prio, e)
		case r.Intn(2) == 0:
			m.Ensure = append(m.Ensure, e)
		default:
			m.Assume = append(m.Assume, e)
		}
	}
	return m
}

// P8.3
func TestShown(t *testing.T) {
	r := rand.New(rand.NewSource(83))
	l := vars()
	for i := range 5000 {
		e := grow(r, l, truth+i%2, 5, true, true, true)
		if _, err := sort.Of(l, e); err == api.OK {
			wantTree(t, l, show.Expr(l, e), e)
		}
		m := growModule(r, 4)
		s := show.Module(m)
		got, at, err := read.Module(s)
		switch {
		case len(s) > api.MaxText:
			wantUnmade(t, s, 0, api.ErrFull)
		case !module.Same(got, m) || at != 0 || err != api.OK:
			t.Fatalf("%q: %v, %d, %d", s, got, at, err)
		}
	}
}

// P8.3: every expression that is valid fits into a text: the longest ones.
func TestShownLongest(t *testing.T) {
	l := []api.Var{{Name: strings.Repeat("a", 16), Sort: truth}, {Name: strings.Repeat("b", 16), Sort: whole}}
	e := next(0)
	for range 11 {
		e = node(api.EIf, next(0), e, next(0))
	}
	wantTree(t, l, show.Expr(l, e), e)
	var wide func(n int) api.Expr
	wide = func(n int) api.Expr {
		if n == 1 {
			return next(0)
		}
		return node(api.EAnd, wide(n/2), wide(n-n/2))
	}
	e = node(api.ENot, wide(30))
	wantTree(t, l, show.Expr(l, e), e)
	e = node(api.EMul, num(-1000), node(api.ESub, num(-1000), next(1)))
	wantTree(t, l, show.Expr(l, e), e)
}

// R2
func TestMemory(t *testing.T) {
	l := append(make([]api.Var, 0, 9), vars()...)
	e, _, _ := read.Expr(l, "(if do then (b + 1) else (b - 2))")
	m, _, _ := read.Module(heads + "env when do do do := (not do), d45678901234567_ := any; env when (not do); sys when do do b := any; sys when do; assume do; assume do_2; ensure do; ensure do_2;")
	if !reflect.DeepEqual(l, vars()) || !reflect.DeepEqual(l[:9][4:], make([]api.Var, 5)) {
		t.Error("changed")
	}
	// What is appended to a list is seen in no other one.
	before := fmt.Sprint(e.Kids[1].Kids, e.Kids[2].Kids, m)
	mark := leaf(99, 99)
	_ = append(e.Kids, mark, mark, mark)
	_ = append(e.Kids[1].Kids, mark, mark, mark)
	_ = append(m.Assume, mark, mark)
	_ = append(m.Ensure, mark, mark)
	_ = append(m.Env, command(mark))
	_ = append(m.Sys, command(mark))
	_ = append(m.Env[0].Sets, free(99), free(99))
	_ = append(m.Vars, api.Var{Name: "mark"})
	if fmt.Sprint(e.Kids[1].Kids, e.Kids[2].Kids, m) != before {
		t.Error("shared")
	}
	again, _, _ := read.Expr(l, "(if do then (b + 1) else (b - 2))")
	again.Kids[1].Kids[0] = mark
	if e.Kids[1].Kids[0].Op != api.EVar {
		t.Error("two results share")
	}
}
