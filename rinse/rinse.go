// Package rinse: style sheets of strangers, made harmless: see DOC.md.
package rinse

import (
	"slices"

	"rinse/api"
	"rinse/cascade"
	"rinse/policy"
	"rinse/rules"
	"rinse/scan"
	"rinse/selectors"
	"rinse/tree"
	"rinse/values"
	"rinse/wash"
)

// Tokens gives a sheet's tokens (P3).
func Tokens(sheet string) ([]api.Token, api.Errno) {
	if len(sheet) > api.MaxSheet {
		return nil, api.ErrLong
	}
	var tokens []api.Token
	for token := range scan.Tokens(sheet) {
		tokens = append(tokens, token)
	}
	return tokens, api.OK
}

// Matches tells whether a selector list matches an element (P4).
func Matches(selector string, page []api.Elem, elem int) (bool, api.Errno) {
	if len(selector) > api.MaxTest {
		return false, api.ErrLong
	}
	whole, ok := tree.Of(page)
	if !ok || !whole.Has(elem) {
		return false, api.ErrPage
	}
	list, ok := readSelector(selector)
	if !ok {
		return false, api.ErrSelector
	}
	return list.On(whole).Has(elem), api.OK
}

// readSelector makes a selector list of a text, if it is one and has no block that is too deep.
func readSelector(selector string) (selectors.List, bool) {
	list, depth := values.Read(scan.Tokens(selector))
	if depth > api.MaxDepth {
		return nil, false
	}
	return selectors.Read(list)
}

// Computed tells what a property of an element comes to (P5).
func Computed(page []api.Elem, sheets []string, elem int, property string) (string, api.Errno) {
	whole, ok := tree.Of(page)
	if !ok || !whole.Has(elem) {
		return "", api.ErrPage
	}
	if areLong(sheets) || len(property) > api.MaxTest {
		return "", api.ErrLong
	}
	read, ok := readSheets(sheets)
	if !ok {
		return "", api.ErrDeep
	}
	return cascade.Of(whole, read...).ComesTo(elem, rules.Property(property)), api.OK
}

// areLong tells whether there are too many sheets, or one is too long.
func areLong(sheets []string) bool {
	if len(sheets) > api.MaxSheets {
		return true
	}
	return slices.ContainsFunc(sheets, func(sheet string) bool { return len(sheet) > api.MaxSheet })
}

// readSheets gives the rules of each sheet, if no block in one is too deep.
func readSheets(sheets []string) ([][]rules.Rule, bool) {
	var all [][]rules.Rule
	for _, sheet := range sheets {
		read, ok := readSheet(sheet)
		if !ok {
			return nil, false
		}
		all = append(all, read)
	}
	return all, true
}

// readSheet gives the rules of a sheet, if no block in it is too deep.
func readSheet(sheet string) ([]rules.Rule, bool) {
	list, depth := values.Read(scan.Tokens(sheet))
	if depth > api.MaxDepth {
		return nil, false
	}
	return rules.Read(list), true
}

// Rinse makes a sheet harmless (P6).
func Rinse(sheet string, p api.Policy) (string, api.Errno) {
	checked, ok := policy.Of(p)
	if !ok {
		return "", api.ErrPolicy
	}
	if len(sheet) > api.MaxSheet {
		return "", api.ErrLong
	}
	read, ok := readSheet(sheet)
	if !ok {
		return "", api.ErrDeep
	}
	return wash.Rules(checked, read), api.OK
}
