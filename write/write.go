// Package write writes values and names so that they are read again as what they are.
package write

import (
	"rinse/api"
	"rinse/texts"
	"rinse/values"
)

// between parts two values that could else be read as one.
const between = "/**/"

// Values writes a list of values.
func Values(list []values.Value) string {
	var parts []string
	for i, v := range list {
		if i > 0 {
			if isBlank(v) && isBlank(list[i-1]) {
				continue
			}
			if !endsAlone(list[i-1]) && !beginsAlone(v) {
				parts = append(parts, between)
			}
		}
		parts = append(parts, value(v))
	}
	return texts.Join(parts...)
}

func isBlank(v values.Value) bool {
	return v.Kind == api.Blank
}

// endsAlone tells whether nothing that stands behind a value could be taken for more of it.
func endsAlone(v values.Value) bool {
	return isBlank(v) || values.Closer(v.Token) != "" || isMark(v)
}

// beginsAlone tells whether a value could not be taken for more of what stands ahead of it.
func beginsAlone(v values.Value) bool {
	return isBlank(v) || v.IsSign("[") || v.IsSign("{") || isMark(v)
}

// isMark tells whether a value is one of the signs that part others, or a closing one that closes nothing.
func isMark(v values.Value) bool {
	if v.Kind != api.Sign {
		return false
	}
	switch v.Word {
	case ",", ":", ";", ")", "]", "}":
		return true
	}
	return false
}

// value writes one value.
func value(v values.Value) string {
	switch v.Kind {
	case api.Blank:
		return " "
	case api.Text:
		return Text(v.Word)
	case api.BadText:
		return "\"\n"
	case api.Hash:
		return texts.Join("#", Name(v.Word))
	case api.Percent:
		return texts.Join(v.Word, "%")
	case api.Dimension:
		return texts.Join(v.Word, unit(v.Unit))
	case api.Open:
		return "<!--"
	case api.Close:
		return "-->"
	case api.At:
		return texts.Join("@", Name(v.Word))
	case api.Function:
		return texts.Join(Name(v.Word), "(", Values(v.Inside), ")")
	case api.Link:
		return link(v.Word)
	case api.BadLink:
		return "url(()"
	case api.Ident:
		return Name(v.Word)
	case api.Sign:
		return texts.Join(v.Word, Values(v.Inside), values.Closer(v.Token))
	}
	// A Number's word, or a text that is written already.
	return v.Word
}
