package rules

import (
	"strings"

	"rinse/api"
	"rinse/texts"
	"rinse/values"
)

// Declaration gives a property a value.
type Declaration struct {
	Property  string
	Value     []values.Value
	Important bool
}

// IsCustom tells whether a property is one of those that anybody may name.
func IsCustom(property string) bool {
	return strings.HasPrefix(property, "--")
}

// Property tells a property's name as it is compared: in small letters, unless it is custom.
func Property(name string) string {
	if IsCustom(name) {
		return name
	}
	return texts.Small(name)
}

// Declarations gives the declarations in a rule's body.
func Declarations(body []values.Value) []Declaration {
	var all []Declaration
	for len(body) > 0 {
		switch body[0].Kind {
		case api.Blank:
			body = body[1:]
		case api.At:
			_, body = readAt(body)
		default:
			var part []values.Value
			part, _, body = values.Cut(body, ";")
			if declaration, ok := readDeclaration(part); ok {
				all = append(all, declaration)
			}
		}
	}
	return all
}

// readDeclaration makes a declaration of the values up to a `;`, if they are one.
func readDeclaration(part []values.Value) (Declaration, bool) {
	if len(part) == 0 || part[0].Kind != api.Ident {
		return Declaration{}, false
	}
	behind := values.Trim(part[1:])
	if len(behind) == 0 || !behind[0].IsSign(":") {
		return Declaration{}, false
	}
	value, important := cutImportant(values.Trim(behind[1:]))
	return Declaration{Property(part[0].Word), value, important}, true
}

// cutImportant leaves out a `!important` at the end of a value, and tells whether there was one.
func cutImportant(value []values.Value) ([]values.Value, bool) {
	last := len(value) - 1
	if last < 0 || !value[last].IsWord("important") {
		return value, false
	}
	ahead := values.Trim(value[:last])
	last = len(ahead) - 1
	if last < 0 || !ahead[last].IsSign("!") {
		return value, false
	}
	return values.Trim(ahead[:last]), true
}
