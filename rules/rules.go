// Package rules reads rules, and declarations in their bodies, from values.
package rules

import (
	"rinse/api"
	"rinse/values"
)

// Rule is a style rule, or, if At is not empty, the at-rule of that name.
type Rule struct {
	At   string
	Head []values.Value
	// HasBody is true of each style rule. An at-rule need not have a body.
	HasBody bool
	Body    []values.Value
}

// Read gives the rules of a whole sheet.
func Read(list []values.Value) []Rule {
	var all []Rule
	for len(list) > 0 {
		if passedOver(list[0]) {
			list = list[1:]
			continue
		}
		var rule Rule
		rule, list = readRule(list)
		if rule.HasBody || rule.At != "" {
			all = append(all, rule)
		}
	}
	return all
}

func passedOver(v values.Value) bool {
	return v.Kind == api.Blank || v.Kind == api.Open || v.Kind == api.Close
}

// readRule gives the rule at the beginning of values, and what is left behind it.
func readRule(list []values.Value) (Rule, []values.Value) {
	if list[0].Kind == api.At {
		return readAt(list)
	}
	head, stop, rest := values.Cut(list, "{")
	return Rule{Head: head, HasBody: stop.IsSign("{"), Body: stop.Inside}, rest
}

// readAt gives the at-rule at the beginning of values, and what is left behind it.
func readAt(list []values.Value) (Rule, []values.Value) {
	head, stop, rest := values.Cut(list[1:], ";", "{")
	return Rule{At: list[0].Word, Head: head, HasBody: stop.IsSign("{"), Body: stop.Inside}, rest
}
