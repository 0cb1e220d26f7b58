package selectors

import (
	"rinse/api"
	"rinse/texts"
	"rinse/values"
)

// maxPlace is the greatest number in an nth-child.
const maxPlace = 999

// reader goes through values, from the first to the last.
type reader struct {
	rest []values.Value
}

// Read makes a selector list of values, if they are one.
func Read(list []values.Value) (List, bool) {
	parts := values.Split(list, ",")
	if len(parts) > api.MaxSelectors {
		return nil, false
	}
	var whole List
	for _, part := range parts {
		one, ok := readComplex(part)
		if !ok {
			return nil, false
		}
		whole = append(whole, one)
	}
	return whole, true
}

func readComplex(list []values.Value) (Complex, bool) {
	var whole Complex
	r := reader{values.Trim(list)}
	combinator := First
	for {
		compound, ok := r.compound()
		if !ok {
			return nil, false
		}
		whole = append(whole, Step{combinator, compound})
		if r.ended() {
			return whole, true
		}
		combinator, ok = r.combinator()
		if !ok {
			return nil, false
		}
	}
}

// next gives the value that is not read yet, at the end an empty one, which is of no kind.
func (r *reader) next() values.Value {
	if r.ended() {
		return values.Value{}
	}
	return r.rest[0]
}

func (r *reader) ended() bool {
	return len(r.rest) == 0
}

// take gives the next value, and goes behind it.
func (r *reader) take() values.Value {
	v := r.next()
	if !r.ended() {
		r.rest = r.rest[1:]
	}
	return v
}

// takeSign goes behind the next value if it is this sign.
func (r *reader) takeSign(sign string) bool {
	if !r.next().IsSign(sign) {
		return false
	}
	r.take()
	return true
}

// passBlanks tells whether there was one.
func (r *reader) passBlanks() bool {
	passed := false
	for r.next().Kind == api.Blank {
		r.take()
		passed = true
	}
	return passed
}

// combinator reads what stands between two compounds.
func (r *reader) combinator() (Combinator, bool) {
	blanks := r.passBlanks()
	combinator := First
	switch {
	case r.takeSign(">"):
		combinator = Child
	case r.takeSign("+"):
		combinator = Next
	case r.takeSign("~"):
		combinator = Further
	case blanks:
		return Below, true
	default:
		return First, false
	}
	r.passBlanks()
	return combinator, true
}

// compound reads as many parts as stand one behind the other: one at least.
func (r *reader) compound() ([]Part, bool) {
	var parts []Part
	if r.next().Kind == api.Ident {
		parts = append(parts, tag{texts.Small(r.take().Word)})
	} else if r.takeSign("*") {
		parts = append(parts, star{})
	}
	for r.partFollows() {
		part, ok := r.part()
		if !ok {
			return nil, false
		}
		parts = append(parts, part)
	}
	return parts, len(parts) > 0
}

// partFollows tells whether there begins what may stand behind a tag.
func (r *reader) partFollows() bool {
	v := r.next()
	return v.Kind == api.Hash || v.IsSign(".") || v.IsSign("[") || v.IsSign(":")
}

func (r *reader) part() (Part, bool) {
	switch v := r.take(); {
	case v.Kind == api.Hash:
		return id{v.Word}, true
	case v.IsSign("."):
		name := r.take()
		return class{name.Word}, name.Kind == api.Ident
	case v.IsSign("["):
		return readAttr(v.Inside)
	}
	return readState(r.take())
}

func readAttr(list []values.Value) (Part, bool) {
	r := reader{values.Trim(list)}
	name := r.take()
	r.passBlanks()
	if r.ended() {
		return attr{name: name.Word}, name.Kind == api.Ident
	}
	relation, ok := r.relation()
	r.passBlanks()
	value := r.take()
	ok = ok && name.Kind == api.Ident && (value.Kind == api.Ident || value.Kind == api.Text) && r.ended()
	return attr{name.Word, relation, value.Word}, ok
}

// relation reads `=`, or one of the other signs and at once `=`.
func (r *reader) relation() (string, bool) {
	kind := ""
	for _, sign := range [...]string{"~", "^", "$", "*"} {
		if kind == "" && r.takeSign(sign) {
			kind = sign
		}
	}
	return texts.Join(kind, "="), r.takeSign("=")
}

// readState reads the value behind a `:`.
func readState(v values.Value) (Part, bool) {
	name := texts.Small(v.Word)
	switch {
	case v.Kind == api.Ident:
		return state{name}, isState(name)
	case v.Kind != api.Function:
		return nil, false
	case name == "nth-child":
		return readPlace(v.Inside)
	case name == "not":
		list, ok := Read(v.Inside)
		return not{list}, ok
	case name == "is":
		list, ok := Read(v.Inside)
		return is{list}, ok
	}
	return nil, false
}

func isState(name string) bool {
	switch name {
	case "root", "first-child", "last-child", "empty":
		return true
	}
	return false
}

func readPlace(list []values.Value) (Part, bool) {
	list = values.Trim(list)
	if len(list) != 1 {
		return nil, false
	}
	switch v := list[0]; v.Kind {
	case api.Number:
		number, ok := readNumber(v.Word)
		return place{number: number}, ok
	case api.Ident:
		name := texts.Small(v.Word)
		return place{name: name}, name == "odd" || name == "even"
	}
	return nil, false
}

// readNumber reads a number of digits alone, of which there may be any number of noughts.
func readNumber(word string) (int, bool) {
	number := 0
	for i := range len(word) {
		if word[i] < '0' || word[i] > '9' {
			return 0, false
		}
		number = number*10 + int(word[i]-'0')
		if number > maxPlace {
			return 0, false
		}
	}
	return number, true
}
