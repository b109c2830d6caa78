package read

import (
	"strings"

	"parry/api"
	"parry/dom"
)

// Kinds of words. That of no word comes first: a word that is gone is the zero one.
const (
	gone = iota
	end  // of the text
	plain
	number
	sign
)

// word is a piece of a text that is read as a whole.
type word struct {
	kind int
	text string
	at   int // where it begins
	n    int // the value of a number
}

// isName tells a name from a word of the language. One that is too long for a variable is a name here, since a word that no variable has is told from one that does not fit.
func (w word) isName() bool {
	if w.kind != plain {
		return false
	}
	return len(w.text) > api.MaxName || dom.May([]api.Var{{Name: w.text, Sort: api.SBool}}) == api.OK
}

// signs has the longer ones first, so that the first one that fits is the longest.
var signs = [...]string{":=", "..", "=>", "<=", ":", ";", ",", "=", "<", "+", "-", "*", "(", ")", "'"}

// scanner goes through the words of a text, and keeps the first error.
type scanner struct {
	text string
	rest int  // where what has not been looked at begins
	word word // the one that is to be read now
	at   int
	err  api.Errno
}

// scan returns a scanner at the first word of a text.
func scan(text string) scanner {
	s := scanner{text: text}
	s.next()
	return s
}

// next goes on to the next word, unless something was wrong.
func (s *scanner) next() {
	if s.err != api.OK {
		return
	}
	s.span(isBlank)
	at := s.rest
	if at == len(s.text) {
		s.word = word{kind: end, at: at}
		return
	}
	switch c := s.text[at]; {
	case isLetter(c):
		s.word = word{kind: plain, text: s.span(isInner), at: at}
	case isDigit(c):
		s.number(at)
	default:
		s.sign(at)
	}
}

// span passes the bytes that are of this kind, and returns them.
func (s *scanner) span(is func(byte) bool) string {
	from := s.rest
	for s.rest < len(s.text) && is(s.text[s.rest]) {
		s.rest++
	}
	return s.text[from:s.rest]
}

func (s *scanner) number(at int) {
	text := s.span(isDigit)
	n := 0
	for i := range len(text) {
		n = n*10 + int(text[i]-'0')
		if n > api.MaxNum {
			s.fail(at, api.ErrOver)
			return
		}
	}
	s.word = word{kind: number, text: text, at: at, n: n}
}

func (s *scanner) sign(at int) {
	for _, text := range signs {
		if strings.HasPrefix(s.text[at:], text) {
			s.rest += len(text)
			s.word = word{kind: sign, text: text, at: at}
			return
		}
	}
	s.fail(at, api.ErrForm)
}

// fail keeps the error if it is the first one. The word is gone, so that none fits later.
func (s *scanner) fail(at int, err api.Errno) {
	if s.err == api.OK {
		s.at, s.err = at, err
	}
	s.word = word{}
}

// misfit says that the word does not fit where it stands.
func (s *scanner) misfit() {
	s.fail(s.word.at, api.ErrForm)
}

// take passes the word if it is this one, and tells whether it was.
func (s *scanner) take(text string) bool {
	if s.word.text != text {
		return false
	}
	s.next()
	return true
}

// need passes the word, which must be this one.
func (s *scanner) need(text string) {
	if !s.take(text) {
		s.misfit()
	}
}

// finish needs the end of the text.
func (s *scanner) finish() {
	if s.word.kind != end {
		s.misfit()
	}
}

// whole reads a number, with or without a minus.
func (s *scanner) whole() int {
	factor := 1
	if s.take("-") {
		factor = -1
	}
	n := s.word.n
	if s.word.kind != number {
		s.misfit()
	}
	s.next()
	return factor * n
}

func isBlank(c byte) bool {
	return c == ' ' || c == '\t' || c == '\n'
}

func isLetter(c byte) bool {
	return 'a' <= c && c <= 'z'
}

func isDigit(c byte) bool {
	return '0' <= c && c <= '9'
}

// isInner tells whether a word that began with a letter goes on with c.
func isInner(c byte) bool {
	return isLetter(c) || isDigit(c) || c == '_'
}
