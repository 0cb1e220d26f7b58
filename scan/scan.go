// Package scan makes tokens of a sheet's bytes.
package scan

import (
	"strings"

	"rinse/api"
	"rinse/texts"
)

// none is what stands behind the last byte.
const none = -1

// maxHex is how many hex digits an escape has at most.
const maxHex = 6

type scanner struct {
	src string // cleaned
	at  int    // the place of the next byte
}

// Tokens sends a sheet's tokens over a channel and closes it. There is room for all of them,
// so that nobody need read while it sends, and nothing goes on when it answers.
func Tokens(sheet string) <-chan api.Token {
	s := scanner{src: clean(sheet)}
	// A token takes one byte at least.
	out := make(chan api.Token, len(s.src))
	for {
		s.passComments()
		if s.peek(0) == none {
			goto end
		}
		out <- s.token()
	}
end:
	close(out)
	return out
}

// peek gives the byte that many places ahead, or none.
func (s *scanner) peek(ahead int) int {
	if s.at+ahead >= len(s.src) {
		return none
	}
	return int(s.src[s.at+ahead])
}

// take gives the next byte, as a text, and goes behind it.
func (s *scanner) take() string {
	s.at++
	return s.src[s.at-1 : s.at]
}

func (s *scanner) stands(text string) bool {
	return strings.HasPrefix(s.src[s.at:], text)
}

func (s *scanner) escapeBegins(ahead int) bool {
	return s.peek(ahead) == '\\' && s.peek(ahead+1) != '\n'
}

func (s *scanner) nameGoesOn(ahead int) bool {
	return isNameByte(s.peek(ahead)) || s.escapeBegins(ahead)
}

func (s *scanner) nameBegins(ahead int) bool {
	if s.peek(ahead) == '-' {
		next := s.peek(ahead + 1)
		return isLetter(next) || next == '-' || s.escapeBegins(ahead+1)
	}
	return isLetter(s.peek(ahead)) || s.escapeBegins(ahead)
}

func (s *scanner) numberBegins() bool {
	ahead := 0
	if isSign(s.peek(0)) {
		ahead = 1
	}
	if s.peek(ahead) == '.' {
		ahead++
	}
	return isDigit(s.peek(ahead))
}

func (s *scanner) passComments() {
	for s.stands("/*") {
		length := strings.Index(s.src[s.at+len("/*"):], "*/")
		if length < 0 {
			s.at = len(s.src)
			goto passed
		}
		s.at += len("/*") + length + len("*/")
	}
passed:
}

func (s *scanner) passBlanks() {
	for {
		if !isBlank(s.peek(0)) {
			goto passed
		}
		s.at++
	}
passed:
}

func (s *scanner) passDigits() {
	for {
		if !isDigit(s.peek(0)) {
			goto passed
		}
		s.at++
	}
passed:
}

// escape reads an escape, and gives what it stands for.
func (s *scanner) escape() string {
	number, digits := 0, 0
	s.at++
	for digits < maxHex {
		value := hexValue(s.peek(0))
		if value < 0 {
			goto counted
		}
		number = number*16 + value
		digits++
		s.at++
	}
counted:
	if digits == 0 {
		return s.escapedByte()
	}
	if isBlank(s.peek(0)) {
		s.at++
	}
	if number < 1 || number > 255 {
		return "?"
	}
	return string([]byte{byte(number)})
}

func (s *scanner) escapedByte() string {
	if s.peek(0) == none {
		return "?"
	}
	return s.take()
}

func (s *scanner) name() string {
	var parts []string
	for {
		switch {
		case isNameByte(s.peek(0)):
			parts = append(parts, s.take())
		case s.escapeBegins(0):
			parts = append(parts, s.escape())
		default:
			goto end
		}
	}
end:
	return texts.Join(parts...)
}

func (s *scanner) number() string {
	begin := s.at
	if isSign(s.peek(0)) {
		s.at++
	}
	s.passDigits()
	if s.peek(0) == '.' && isDigit(s.peek(1)) {
		s.at++
		s.passDigits()
	}
	s.passExponent()
	return s.src[begin:s.at]
}

// passExponent goes behind an `e` only if digits follow it: else it is a unit's.
func (s *scanner) passExponent() {
	if s.peek(0) != 'e' && s.peek(0) != 'E' {
		return
	}
	ahead := 1
	if isSign(s.peek(1)) {
		ahead = 2
	}
	if isDigit(s.peek(ahead)) {
		s.at += ahead
		s.passDigits()
	}
}
