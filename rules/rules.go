// Package rules reads rules, and declarations in their bodies, from values.
package rules

import (
	"slices"

	"rinse/api"
	"rinse/values"
)

// Rule is a style rule, or, if At is not empty, the at-rule of that name.
type Rule struct {
	At   string
	Head []values.Value
	// HasBody is true of each style rule. An at-rule need not have a body.
	HasBody bool
	Body    []values.Value
}

// Read gives the rules of a whole sheet, between which Open and Close are passed over.
func Read(list []values.Value) []Rule {
	return readAll(list, api.Blank, api.Open, api.Close)
}

// ReadBody gives the rules in an at-rule's body.
func ReadBody(list []values.Value) []Rule {
	return readAll(list, api.Blank)
}

// readAll gives rules, between which values of these kinds are passed over.
func readAll(list []values.Value, passedOver ...int) []Rule {
	var all []Rule
	for len(list) > 0 {
		if slices.Contains(passedOver, list[0].Kind) {
			list = list[1:]
			continue
		}
		var rule Rule
		rule, list = readRule(list)
		if rule.HasBody || rule.At != "" {
			all = append(all, rule)
		}
	}
	return all
}

// readRule gives the rule at the beginning of values, and what is left behind it.
func readRule(list []values.Value) (Rule, []values.Value) {
	if list[0].Kind == api.At {
		return readAt(list)
	}
	head, stop, rest := values.Cut(list, "{")
	return Rule{Head: head, HasBody: stop.IsSign("{"), Body: stop.Inside}, rest
}

// readAt gives the at-rule at the beginning of values, and what is left behind it.
func readAt(list []values.Value) (Rule, []values.Value) {
	head, stop, rest := values.Cut(list[1:], ";", "{")
	return Rule{At: list[0].Word, Head: head, HasBody: stop.IsSign("{"), Body: stop.Inside}, rest
}
