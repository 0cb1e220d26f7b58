// Package rinse: style sheets of strangers, made harmless: see DOC.md.
package rinse

import (
	"rinse/api"
	"rinse/scan"
	"rinse/selectors"
	"rinse/tree"
	"rinse/values"
)

// Tokens gives a sheet's tokens (P3).
func Tokens(sheet string) ([]api.Token, api.Errno) {
	if len(sheet) > api.MaxSheet {
		return nil, api.ErrLong
	}
	var tokens []api.Token
	for token := range scan.Tokens(sheet) {
		tokens = append(tokens, token)
	}
	return tokens, api.OK
}

// Matches tells whether a selector list matches an element (P4).
func Matches(selector string, page []api.Elem, elem int) (bool, api.Errno) {
	if len(selector) > api.MaxTest {
		return false, api.ErrLong
	}
	whole, ok := tree.Of(page)
	if !ok || !whole.Has(elem) {
		return false, api.ErrPage
	}
	list, ok := readSelector(selector)
	if !ok {
		return false, api.ErrSelector
	}
	return list.On(whole).Has(elem), api.OK
}

// readSelector makes a selector list of a text, if it is one and has no block that is too deep.
func readSelector(selector string) (selectors.List, bool) {
	list, depth := values.Read(scan.Tokens(selector))
	if depth > api.MaxDepth {
		return nil, false
	}
	return selectors.Read(list)
}

// Computed tells what a property of an element comes to (P5).
func Computed(page []api.Elem, sheets []string, elem int, property string) (string, api.Errno) {
	return "", api.OK
}

// Rinse makes a sheet harmless (P6).
func Rinse(sheet string, p api.Policy) (string, api.Errno) { return "", api.OK }
