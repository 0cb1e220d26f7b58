// Package cascade tells what the properties of a page's elements come to.
package cascade

import (
	"rinse/rules"
	"rinse/selectors"
	"rinse/tree"
)

// Cascade is a page, with the style rules that hold for its elements.
type Cascade struct {
	page tree.Page
	// winners has the declarations that win, of each element by their properties.
	winners []map[string]winner
	// known has what is found out already: values that name others twice each, of which each
	// does so again, would else be gone through very often.
	known map[question]answer
}

// winner is a declaration with the weight of its rule.
type winner struct {
	rules.Declaration
	weight selectors.Weight
}

type question struct {
	elem     int
	property string
}

type answer struct {
	text string
}

// Of lays the rules of any number of sheets on a page, one sheet behind the other.
func Of(page tree.Page, sheets ...[]rules.Rule) Cascade {
	c := Cascade{page: page, known: map[question]answer{}}
	for range page.Size() {
		c.winners = append(c.winners, map[string]winner{})
	}
	for _, sheet := range sheets {
		for _, rule := range sheet {
			c.lay(rule)
		}
	}
	return c
}

// lay enters the declarations of a rule for each element that it matches.
func (c Cascade) lay(rule rules.Rule) {
	list, ok := selectors.Read(rule.Head)
	if !ok || rule.At != "" {
		return
	}
	claims := list.Claims(c.page)
	declarations := rules.Declarations(rule.Body)
	for elem, winners := range c.winners {
		weight, ok := greatest(claims, elem)
		if !ok {
			continue
		}
		for _, declaration := range declarations {
			enter(winners, winner{declaration, weight})
		}
	}
}

// greatest gives the greatest weight of the claims on an element, if there is one.
func greatest(claims []selectors.Claim, elem int) (selectors.Weight, bool) {
	var found selectors.Weight
	ok := false
	for _, claim := range claims {
		if claim.Elems.Has(elem) {
			ok = true
			if claim.Weight.Compare(found) > 0 {
				found = claim.Weight
			}
		}
	}
	return found, ok
}

// enter puts a declaration among those that win, unless an earlier one of its property wins over it.
func enter(winners map[string]winner, later winner) {
	earlier, ok := winners[later.Property]
	if !ok || later.beats(earlier) {
		winners[later.Property] = later
	}
}

// beats tells whether a declaration wins over one that stands ahead of it.
func (w winner) beats(earlier winner) bool {
	if w.Important != earlier.Important {
		return w.Important
	}
	return w.weight.Compare(earlier.weight) >= 0
}
