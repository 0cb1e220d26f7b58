// Package policy checks policies, and tells what they let be.
package policy

import (
	"slices"

	"rinse/api"
	"rinse/rules"
	"rinse/texts"
	"rinse/values"
)

// Policy is one that is known to be allowed.
type Policy struct {
	given api.Policy
}

// Of makes a policy of what is given, if that may be one.
func Of(given api.Policy) (Policy, bool) {
	if !isPolicy(given) {
		return Policy{}, false
	}
	return Policy{given}, true
}

// Root is the class under which all is brought, or empty.
func (p Policy) Root() string {
	return p.given.Root
}

// AtRuleMayBe asks for a name in small letters.
func (p Policy) AtRuleMayBe(name string) bool {
	return slices.Contains(p.given.AtRules, name)
}

// PropertyMayBe asks for a property as it is told: in small letters, unless it is custom.
func (p Policy) PropertyMayBe(property string) bool {
	if rules.IsCustom(property) {
		return p.given.Custom
	}
	return slices.Contains(p.given.Properties, property)
}

// IsHarmless tells whether there is nothing among values, at any depth, that may not be.
func (p Policy) IsHarmless(list []values.Value) bool {
	for _, v := range list {
		if !p.mayBe(v) || !p.IsHarmless(v.Inside) {
			return false
		}
	}
	return true
}

// mayBe asks for a value without what stands in it. It names what may be: a kind that it does not know may not.
func (p Policy) mayBe(v values.Value) bool {
	switch v.Kind {
	case api.Blank, api.Hash, api.Number, api.Percent, api.Dimension, api.Ident:
		return true
	case api.Text:
		return p.given.Texts
	case api.Function:
		return slices.Contains(p.given.Functions, texts.Small(v.Word))
	case api.Sign:
		return signMayBe(v.Word)
	}
	return false
}

// signMayBe has no closing signs: as values of their own they close nothing. Opening ones are always blocks.
func signMayBe(sign string) bool {
	switch sign {
	case "+", "-", "*", "/", ".", ",", ":", "%", "=", "(", "[", "{":
		return true
	}
	return false
}
