package cascade

import (
	"rinse/api"
	"rinse/rules"
	"rinse/texts"
	"rinse/values"
	"rinse/write"
)

// variable is what a var says: the name of a custom property, and what stands for it where that is nothing.
type variable struct {
	name        string
	hasFallback bool
	fallback    []values.Value
}

func isVar(v values.Value) bool {
	return v.Kind == api.Function && texts.Small(v.Word) == "var"
}

// readVar makes a variable of what stands in a var, if that begins with a name.
func readVar(inside []values.Value) (variable, bool) {
	ahead, stop, behind := values.Cut(inside, ",")
	ahead = values.Trim(ahead)
	if len(ahead) != 1 || ahead[0].Kind != api.Ident || !rules.IsCustom(ahead[0].Word) {
		return variable{}, false
	}
	return variable{ahead[0].Word, stop.IsSign(","), values.Trim(behind)}, true
}

// substituted writes values, with what stands for each var in its place, if there is something for each.
func (c Cascade) substituted(elem int, list []values.Value) (string, bool) {
	list, ok := c.replaced(elem, list)
	return write.Values(list), ok
}

// replaced gives values with a text in the place of each var.
func (c Cascade) replaced(elem int, list []values.Value) ([]values.Value, bool) {
	var all []values.Value
	for _, v := range list {
		ok := false
		if isVar(v) {
			v, ok = c.inPlaceOf(elem, v)
		} else {
			v.Inside, ok = c.replaced(elem, v.Inside)
		}
		if !ok {
			return nil, false
		}
		all = append(all, v)
	}
	return all, true
}

// inPlaceOf gives what stands in the place of a var, if there is something.
func (c Cascade) inPlaceOf(elem int, v values.Value) (values.Value, bool) {
	asked, ok := readVar(v.Inside)
	if !ok {
		return values.Value{}, false
	}
	text := c.ComesTo(elem, asked.name)
	if text == "" {
		if !asked.hasFallback {
			return values.Value{}, false
		}
		text, ok = c.substituted(elem, asked.fallback)
	}
	return values.Value{Token: api.Token{Kind: values.Written, Word: text}}, ok
}

// namesItself tells whether a property is custom and its value names it, or names one whose value does so, and so on.
func (c Cascade) namesItself(elem int, property string) bool {
	if !rules.IsCustom(property) {
		return false
	}
	seen := map[string]int{}
	waiting := c.named(elem, property)
	for len(waiting) > 0 {
		name := waiting[0]
		waiting = waiting[1:]
		if name == property {
			return true
		}
		if seen[name] == 0 {
			waiting = append(waiting, c.named(elem, name)...)
		}
		seen[name]++
	}
	return false
}

// named gives the names in the value of an element's property: none, if it has no value of its own.
func (c Cascade) named(elem int, property string) []string {
	return names(c.winners[elem][property].Value)
}

// names gives the name of each var among values, at any depth: those in fallbacks too, whether or not they are needed.
func names(list []values.Value) []string {
	var all []string
	for _, v := range list {
		if isVar(v) {
			if found, ok := readVar(v.Inside); ok {
				all = append(all, found.name)
			}
		}
		all = append(all, names(v.Inside)...)
	}
	return all
}
