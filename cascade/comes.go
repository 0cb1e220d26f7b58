package cascade

import (
	"rinse/api"
	"rinse/rules"
	"rinse/values"
	"rinse/write"
)

// ComesTo tells what a property of an element comes to; of the root's parent (-1) it is nothing.
func (c Cascade) ComesTo(elem int, property string) string {
	if elem < 0 {
		return ""
	}
	asked := question{elem, property}
	if found, ok := c.known[asked]; ok {
		return found.text
	}
	text := c.find(elem, property)
	c.known[asked] = answer{text}
	return text
}

func (c Cascade) find(elem int, property string) string {
	won, ok := c.winners[elem][property]
	switch {
	case !ok, isWord(won.Value, "unset"), has(won.Value, isBad):
		return c.handedDown(elem, property)
	case isWord(won.Value, "inherit"):
		return c.ComesTo(c.page.Parent(elem), property)
	case isWord(won.Value, "initial"):
		return ""
	case !has(won.Value, isVar):
		return write.Values(won.Value)
	case c.namesItself(elem, property):
		return ""
	}
	text, ok := c.substituted(elem, won.Value)
	if !ok || len(text) > api.MaxValue {
		return c.handedDown(elem, property)
	}
	return text
}

// handedDown is what comes of a property that has no value of its own.
func (c Cascade) handedDown(elem int, property string) string {
	if !isHandedDown(property) {
		return ""
	}
	return c.ComesTo(c.page.Parent(elem), property)
}

func isHandedDown(property string) bool {
	switch property {
	case "color", "font-size", "quotes":
		return true
	}
	return rules.IsCustom(property)
}

// isWord tells whether a value is this Ident alone.
func isWord(value []values.Value, word string) bool {
	return len(value) == 1 && value[0].IsWord(word)
}

// has tells whether there is such a one among values, at any depth.
func has(list []values.Value, such func(v values.Value) bool) bool {
	for _, v := range list {
		if such(v) || has(v.Inside, such) {
			return true
		}
	}
	return false
}

func isBad(v values.Value) bool {
	return v.Kind == api.BadText || v.Kind == api.BadLink
}
