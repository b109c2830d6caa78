package read_test

import (
	"math/rand"
	"reflect"
	"regexp"
	"slices"
	"strconv"
	"strings"
	"testing"

	"parry/api"
	"parry/module"
	"parry/read"
	"parry/show"
	"parry/sort"
)

// The texts of this file are judged in another way than the program's: all words are cut first, a list of what is still expected tells what is wrong, and what is right is put together from the closing parentheses.

type piece struct {
	text string
	at   int
}

var wordForm = regexp.MustCompile(`^(?:[a-z][a-z0-9_]*|[0-9]+|:=|\.\.|=>|<=|[:;,=<+*()'-])`)

// pieces cuts a text; a byte that begins no word ends the list, as a piece of its own.
func pieces(s string) []piece {
	var list []piece
	for at := 0; ; {
		at += len(s[at:]) - len(strings.TrimLeft(s[at:], " \t\n"))
		if at == len(s) {
			return append(list, piece{"", at})
		}
		text := wordForm.FindString(s[at:])
		if text == "" {
			return append(list, piece{"?", at})
		}
		list = append(list, piece{text, at})
		at += len(text)
	}
}

const (
	reserved = " bool int env sys init when assume ensure prio any true false if then else not and or "
	betweens = " and or => = < <= + - * "
)

func isNumber(s string) bool { return s != "" && s[0] >= '0' && s[0] <= '9' }

func isName(s string) bool {
	return s != "" && s[0] >= 'a' && s[0] <= 'z' && !strings.Contains(reserved, " "+s+" ")
}

func tooGreat(s string) bool {
	digits := strings.TrimLeft(s, "0")
	n, _ := strconv.Atoi("0" + digits)
	return isNumber(s) && (len(digits) > 4 || n > 1000)
}

// A thing that is expected: a word, or one of these.
const (
	anExpr  = "<expression>"
	aQuote  = "<' if there is one>"
	aNumber = "<number>"
	aWhole  = "<number, with - or not>"
	inside  = "<what stands in parentheses>"
	anOp    = "<operation>"
	closing = "<)>"
	some    = "<statements>"
	ofSide  = "<name or when>"
	aSide   = "<env or sys>"
	aRange  = "<sort>"
	doing   = "<do or not>"
	aSet    = "<set>"
	aValue  = "<any or expression>"
	more    = "<, or not>"
	theEnd  = "<end>"
)

// judge goes through the words with the list of what is expected (the next thing last).
type judge struct {
	known []string
	open  int
	todo  []string
}

func (j *judge) expect(things ...string) {
	slices.Reverse(things)
	j.todo = append(j.todo, things...)
}

// fits tells what is wrong with a word at this thing, and whether the word has been passed.
func (j *judge) fits(thing, w string) (bool, api.Errno) {
	optional := func(is bool, things ...string) (bool, api.Errno) {
		if is {
			j.expect(things...)
		}
		return is, api.OK
	}
	only := func(is bool, things ...string) (bool, api.Errno) {
		if !is {
			return false, api.ErrForm
		}
		return optional(true, things...)
	}
	is := func(words string) bool { return w != "" && strings.Contains(words, " "+w+" ") }
	switch thing {
	case anExpr:
		switch {
		case w == "(" && j.open == 100:
			return false, api.ErrFull
		case w == "(":
			j.open++
			return optional(true, inside, closing)
		case w == "-":
			return optional(true, aNumber)
		case isName(w) && !slices.Contains(j.known, w):
			return false, api.ErrName
		case isName(w):
			return optional(true, aQuote)
		}
		return only(isNumber(w) || is(" true false "))
	case inside:
		if is(" not if ") {
			return optional(true, map[string][]string{"not": {anExpr}, "if": {anExpr, "then", anExpr, "else", anExpr}}[w]...)
		}
		j.expect(anExpr, anOp, anExpr)
		return false, api.OK
	case closing:
		j.open--
		return only(w == ")")
	case aQuote:
		return optional(w == "'")
	case anOp:
		return only(is(betweens))
	case aNumber:
		return only(isNumber(w))
	case aWhole:
		if w == "-" {
			return optional(true, aNumber)
		}
		return only(isNumber(w))
	case some:
		switch {
		case w == "":
			return false, api.OK
		case is(" env sys "):
			return optional(true, ofSide, ";", some)
		case w == "init":
			return optional(true, aSide, anExpr, ";", some)
		}
		return only(is(" assume ensure prio "), anExpr, ";", some)
	case ofSide:
		if w == "when" {
			return optional(true, anExpr, doing)
		}
		j.known = append(j.known, w)
		return only(isName(w), ":", aRange)
	case aSide:
		return only(is(" env sys "))
	case aRange:
		if w == "bool" {
			return true, api.OK
		}
		j.expect(aWhole, "..", aWhole)
		return false, api.OK
	case doing:
		return optional(w == "do", aSet)
	case aSet:
		if isName(w) && !slices.Contains(j.known, w) {
			return false, api.ErrName
		}
		return only(isName(w), ":=", aValue, more)
	case aValue:
		if w == "any" {
			return true, api.OK
		}
		j.expect(anExpr)
		return false, api.OK
	case more:
		return optional(w == ",", aSet)
	case theEnd:
		return only(w == "")
	}
	return only(w == thing)
}

// run returns the first error of the words, and where.
func (j *judge) run(list []piece) (int, api.Errno) {
	for len(list) > 0 && len(j.todo) > 0 {
		p := list[0]
		if tooGreat(p.text) {
			return p.at, api.ErrOver
		}
		if p.text == "?" {
			return p.at, api.ErrForm
		}
		thing := j.todo[len(j.todo)-1]
		j.todo = j.todo[:len(j.todo)-1]
		passed, err := j.fits(thing, p.text)
		if err != api.OK {
			return p.at, err
		}
		if passed {
			list = list[1:]
		}
	}
	return 0, api.OK
}

// tree puts an expression together: a parenthesis that closes ends an operation.
func tree(l []api.Var, words []string) api.Expr {
	type item struct {
		word string
		e    api.Expr
	}
	var items []item
	for _, w := range words {
		last := len(items) - 1
		minus := last >= 0 && items[last].word == "-" && (last == 0 || items[last-1].word != "e")
		switch {
		case w == "'":
			items[last].e.Op = api.ENext
		case isNumber(w) && minus:
			n, _ := strconv.Atoi(w)
			items[last] = item{"e", num(-n)}
		case isNumber(w):
			n, _ := strconv.Atoi(w)
			items = append(items, item{"e", num(n)})
		case w == "true", w == "false":
			items = append(items, item{"e", flag(len("false") - len(w))})
		case isName(w):
			v := slices.IndexFunc(l, func(v api.Var) bool { return v.Name == w })
			items = append(items, item{"e", now(v)})
		case w == ")":
			for last >= 0 && items[last].word != "(" {
				last--
			}
			var e api.Expr
			op := ""
			for _, x := range items[last+1:] {
				if x.word == "e" {
					e.Kids = append(e.Kids, x.e)
				} else {
					op += x.word
				}
			}
			e.Op = map[string]int{"not": 5, "and": 6, "or": 7, "=>": 8, "=": 9, "<": 10, "<=": 11, "+": 12, "-": 13, "*": 14, "ifthenelse": 15}[op]
			items = append(items[:last], item{"e", e})
		default:
			items = append(items, item{w, api.Expr{}})
		}
	}
	return items[0].e
}

func split(words []string, at string) [][]string {
	var list [][]string
	for {
		i := slices.Index(words, at)
		if i < 0 {
			return append(list, words)
		}
		list, words = append(list, words[:i]), words[i+1:]
	}
}

func wholeOf(words []string) int {
	n, _ := strconv.Atoi(strings.Join(words, ""))
	return n
}

// together makes a module of statements that are well formed.
func together(words []string) api.Module {
	m := api.Module{InitEnv: flag(1), InitSys: flag(1)}
	for _, s := range split(words, ";") {
		switch {
		case len(s) == 0:
		case s[0] == "init" && s[1] == "env":
			m.InitEnv = tree(m.Vars, s[2:])
		case s[0] == "init":
			m.InitSys = tree(m.Vars, s[2:])
		case s[0] == "assume":
			m.Assume = append(m.Assume, tree(m.Vars, s[1:]))
		case s[0] == "ensure":
			m.Ensure = append(m.Ensure, tree(m.Vars, s[1:]))
		case s[0] == "prio":
			m.Prio = append(m.Prio, tree(m.Vars, s[1:]))
		case s[1] == "when":
			list := &m.Sys
			if s[0] == "env" {
				list = &m.Env
			}
			*list = append(*list, commandOf(m.Vars, s[2:]))
		case s[3] == "bool":
			m.Vars = append(m.Vars, api.Var{Name: s[1], Env: s[0] == "env", Sort: truth})
		default:
			ends := split(s[3:], "..")
			m.Vars = append(m.Vars, api.Var{Name: s[1], Env: s[0] == "env", Sort: whole, Low: wholeOf(ends[0]), High: wholeOf(ends[1])})
		}
	}
	return m
}

func commandOf(l []api.Var, words []string) api.Command {
	i := slices.Index(words, ":=")
	if i < 0 {
		return command(tree(l, words))
	}
	c := command(tree(l, words[:i-2]))
	for _, s := range split(words[i-1:], ",") {
		v := slices.IndexFunc(l, func(v api.Var) bool { return v.Name == s[0] })
		if s[2] == "any" {
			c.Sets = append(c.Sets, free(v))
		} else {
			c.Sets = append(c.Sets, set(v, tree(l, s[2:])))
		}
	}
	return c
}

func texts(list []piece) []string {
	var words []string
	for _, p := range list {
		words = append(words, p.text)
	}
	return words[:len(words)-1]
}

func judgeExpr(l []api.Var, s string) (api.Expr, int, api.Errno) {
	j := judge{}
	for _, v := range l {
		j.known = append(j.known, v.Name)
	}
	j.expect(anExpr, theEnd)
	list := pieces(s)
	if at, err := j.run(list); err != api.OK {
		return api.Expr{}, at, err
	}
	e := tree(l, texts(list))
	if _, err := sort.Of(l, e); err != api.OK {
		return api.Expr{}, 0, err
	}
	return e, 0, api.OK
}

func judgeModule(s string) (api.Module, int, api.Errno) {
	j := judge{}
	j.expect(some, theEnd)
	list := pieces(s)
	if at, err := j.run(list); err != api.OK {
		return api.Module{}, at, err
	}
	m := together(texts(list))
	if err := module.May(m); err != api.OK {
		return api.Module{}, 0, err
	}
	return m, 0, api.OK
}

// vocabulary: what a text may be spoilt with.
var vocabulary = strings.Fields("do b do_2 d45678901234567_ x w y12 averylongnamethatis bool int env sys init when assume ensure prio any true false if then else not and or 0 1 007 1000 1001 99999999999999999999 := .. => <= : ; , = < + - * ( ) ' $ . > _ A")

// spoil changes some words of a text, or cuts it, and lays the words out anew.
func spoil(r *rand.Rand, s string) string {
	words := texts(pieces(s))
	for range r.Intn(4) {
		i := r.Intn(len(words) + 1)
		switch {
		case r.Intn(3) == 0:
			words = slices.Insert(words, i, vocabulary[r.Intn(len(vocabulary))])
		case i == len(words):
		case r.Intn(2) == 0:
			words = slices.Delete(words, i, i+1)
		default:
			words[i] = vocabulary[r.Intn(len(vocabulary))]
		}
	}
	var text strings.Builder
	for i, w := range words {
		blank := []string{" ", "\n", "\t", "  ", "", ""}[r.Intn(6)]
		if i > 0 && blank == "" && wordForm.FindString(words[i-1]+w) != words[i-1] {
			blank = " "
		}
		text.WriteString(blank + w)
	}
	out := text.String()
	if r.Intn(8) == 0 {
		out = out[:r.Intn(len(out)+1)]
	}
	return out
}

// P8.1: many texts, right and wrong.
func TestExprSample(t *testing.T) {
	r := rand.New(rand.NewSource(81))
	l := vars()
	var seen [api.ErrLost + 1]int
	for i := range 40000 {
		e := grow(r, l, truth+i%2, 4, true, true, true)
		s := spoil(r, show.Expr(l, e))
		want, wantAt, wantErr := judgeExpr(l, s)
		got, at, err := read.Expr(l, s)
		if !reflect.DeepEqual(got, want) || at != wantAt || err != wantErr {
			t.Fatalf("%q: %v, %d, %d, not %v, %d, %d", s, got, at, err, want, wantAt, wantErr)
		}
		seen[err]++
	}
	for _, err := range []api.Errno{api.OK, api.ErrForm, api.ErrName, api.ErrSort, api.ErrOver} {
		if seen[err] < 50 {
			t.Error("too few", err, seen)
		}
	}
}

// P8.2: many texts, right and wrong.
func TestModuleSample(t *testing.T) {
	r := rand.New(rand.NewSource(82))
	var seen [api.ErrLost + 1]int
	for range 20000 {
		s := spoil(r, show.Module(growModule(r, 3)))
		if len(s) > api.MaxText {
			t.Fatal("too long")
		}
		want, wantAt, wantErr := judgeModule(s)
		got, at, err := read.Module(s)
		if !reflect.DeepEqual(got, want) || at != wantAt || err != wantErr {
			t.Fatalf("%q: %v, %d, %d, not %v, %d, %d", s, got, at, err, want, wantAt, wantErr)
		}
		seen[err]++
	}
	for _, err := range []api.Errno{api.OK, api.ErrForm, api.ErrName, api.ErrSort, api.ErrOver} {
		if seen[err] < 30 {
			t.Error("too few", err, seen)
		}
	}
}

// R3: texts of words in any order, most of them wrong early, and of any bytes.
func TestAnyWords(t *testing.T) {
	r := rand.New(rand.NewSource(3))
	for range 30000 {
		var words []string
		for range r.Intn(12) {
			words = append(words, vocabulary[r.Intn(len(vocabulary))])
		}
		any := make([]byte, r.Intn(20))
		r.Read(any)
		for _, s := range []string{strings.Join(words, " "), string(any)} {
			_, wantAt, wantErr := judgeExpr(vars(), s)
			if _, at, err := read.Expr(vars(), s); at != wantAt || err != wantErr {
				t.Fatalf("%q: %d, %d, not %d, %d", s, at, err, wantAt, wantErr)
			}
			_, wantAt, wantErr = judgeModule(s)
			if _, at, err := read.Module(s); at != wantAt || err != wantErr {
				t.Fatalf("%q: %d, %d, not %d, %d", s, at, err, wantAt, wantErr)
			}
		}
	}
}
