// Package values makes values of tokens: blocks with what stands in them, and tokens by themselves.
package values

import (
	"slices"

	"rinse/api"
	"rinse/texts"
)

// Written is a kind that no token has: of a text, the word, that is written already, and stands
// among values as an Ident does.
const Written = -1

// Value is a token. If it opens a block, Inside are the values in that block.
type Value struct {
	api.Token
	Inside []Value
}

// block is one that is still open.
type block struct {
	opener api.Token
	closer string
	inside []Value
}

// Read gives the values of tokens, and the depth of the deepest block.
func Read(tokens <-chan api.Token) (list []Value, depth int) {
	// The first one is no block, but what stands in none; no sign closes it.
	open := []block{{}}
	for token := range tokens {
		last := len(open) - 1
		switch closer := Closer(token); {
		case closer != "":
			open = append(open, block{opener: token, closer: closer})
			depth = max(depth, last+1)
		case token.Kind == api.Sign && token.Word == open[last].closer:
			open = closeLast(open)
		default:
			open[last].inside = append(open[last].inside, Value{Token: token})
		}
	}
	for len(open) > 1 {
		open = closeLast(open)
	}
	return open[0].inside, depth
}

// closeLast makes a value of the last open block, and puts it into the one around it.
func closeLast(open []block) []block {
	last := open[len(open)-1]
	open = open[:len(open)-1]
	around := &open[len(open)-1]
	around.inside = append(around.inside, Value{Token: last.opener, Inside: last.inside})
	return open
}

// Closer gives the sign that closes the block which a token opens, nothing if it opens none.
func Closer(token api.Token) string {
	switch {
	case token.Kind == api.Function:
		return ")"
	case token.Kind != api.Sign:
		return ""
	case token.Word == "(":
		return ")"
	case token.Word == "[":
		return "]"
	case token.Word == "{":
		return "}"
	}
	return ""
}

// IsSign tells whether a value is this sign. An opening one is a block.
func (v Value) IsSign(sign string) bool {
	return v.Kind == api.Sign && v.Word == sign
}

// IsWord tells whether a value is this Ident, in letters of any case. The word is told in small ones.
func (v Value) IsWord(word string) bool {
	return v.Kind == api.Ident && texts.Small(v.Word) == word
}

// Trim leaves out the Blanks at the beginning and the end of values.
func Trim(list []Value) []Value {
	for len(list) > 0 && list[0].Kind == api.Blank {
		list = list[1:]
	}
	for len(list) > 0 && list[len(list)-1].Kind == api.Blank {
		list = list[:len(list)-1]
	}
	return list
}

// Split parts values at each of these signs. There is always one part, though it may be empty.
func Split(list []Value, sign string) [][]Value {
	var parts [][]Value
	begin := 0
	for i, v := range list {
		if v.IsSign(sign) {
			parts = append(parts, list[begin:i])
			begin = i + 1
		}
	}
	return append(parts, list[begin:])
}

// Cut parts values at the first one that is one of these signs. If there is none, it stops at an
// empty value, which is of no kind.
func Cut(list []Value, signs ...string) (ahead []Value, stop Value, behind []Value) {
	for i, v := range list {
		if v.Kind == api.Sign && slices.Contains(signs, v.Word) {
			return list[:i], v, list[i+1:]
		}
	}
	return list, Value{}, nil
}
