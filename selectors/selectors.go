// Package selectors reads and writes selector lists, and tells which elements of a page they match.
package selectors

import "rinse/tree"

// List is complex selectors, of which one must match.
type List []Complex

// Complex is compounds, the last of which is the element's own.
type Complex []Step

// Step is a compound, all of whose parts must match, and how it stands to the compound ahead of it.
type Step struct {
	Combinator Combinator
	Compound   []Part
}

// Combinator tells how a compound stands to the one ahead of it.
type Combinator int

const (
	First   Combinator = iota // there is no compound ahead
	Below                     // that one is an ancestor
	Child                     // the parent
	Next                      // the element just ahead
	Further                   // one ahead
)

// Part is one of the things that a compound asks for.
type Part interface {
	// on gives the elements that have it.
	on(page tree.Page) tree.Set
	// weight is what it adds to its selector's weight.
	weight() Weight
	// written is how it stands in a sheet that is written anew.
	written() string
}

// On gives the elements that a list matches.
func (l List) On(page tree.Page) tree.Set {
	var found tree.Set
	for _, one := range l {
		found |= one.On(page)
	}
	return found
}

// On gives the elements that a complex selector matches.
func (c Complex) On(page tree.Page) tree.Set {
	var found tree.Set
	for _, step := range c {
		found = step.Combinator.from(found, page)
		for _, part := range step.Compound {
			found &= part.on(page)
		}
	}
	return found
}

// from gives the elements that stand as a combinator asks to one of those ahead.
func (c Combinator) from(ahead tree.Set, page tree.Page) tree.Set {
	switch c {
	case Below:
		return page.Below(ahead)
	case Child:
		return page.Children(ahead)
	case Next:
		return page.Next(ahead)
	case Further:
		return page.Behind(ahead)
	}
	return page.All()
}
