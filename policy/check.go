package policy

import (
	"slices"
	"strings"

	"rinse/api"
)

const (
	maxNames = 20 // of a list
	maxBytes = 30 // of a name in it
)

func isPolicy(given api.Policy) bool {
	return isRoot(given.Root) &&
		areNames(given.Properties) && !slices.ContainsFunc(given.Properties, beginsWithDash) &&
		areNames(given.Functions) &&
		areNames(given.AtRules)
}

// isRoot tells whether a text may be a root: an empty one may.
func isRoot(root string) bool {
	return len(root) <= api.MaxNames && isOf(root, isSmall)
}

func areNames(list []string) bool {
	return len(list) <= maxNames && !slices.ContainsFunc(list, isNoName)
}

func isNoName(name string) bool {
	return name == "" || len(name) > maxBytes || !isOf(name, isSmallOrDash)
}

func beginsWithDash(name string) bool {
	return strings.HasPrefix(name, "-")
}

// isOf tells whether each byte of a text passes a test.
func isOf(text string, passes func(c byte) bool) bool {
	for i := range len(text) {
		if !passes(text[i]) {
			return false
		}
	}
	return true
}

func isSmall(c byte) bool {
	return 'a' <= c && c <= 'z'
}

func isSmallOrDash(c byte) bool {
	return isSmall(c) || c == '-'
}
