// Package rinse: style sheets of strangers, made harmless: see DOC.md.
package rinse

import (
	"rinse/api"
	"rinse/scan"
)

// Tokens gives a sheet's tokens (P3).
func Tokens(sheet string) ([]api.Token, api.Errno) {
	if len(sheet) > api.MaxSheet {
		return nil, api.ErrLong
	}
	var tokens []api.Token
	for token := range scan.Tokens(sheet) {
		tokens = append(tokens, token)
	}
	return tokens, api.OK
}

// Matches tells whether a selector list matches an element (P4).
func Matches(selector string, page []api.Elem, elem int) (bool, api.Errno) { return false, api.OK }

// Computed tells what a property of an element comes to (P5).
func Computed(page []api.Elem, sheets []string, elem int, property string) (string, api.Errno) {
	return "", api.OK
}

// Rinse makes a sheet harmless (P6).
func Rinse(sheet string, p api.Policy) (string, api.Errno) { return "", api.OK }
