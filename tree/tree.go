// Package tree checks pages, and tells how their elements stand to one another.
package tree

import "rinse/api"

// Set is a set of a page's elements: the bit of an element's number tells whether it is in it.
// A set for each piece of a selector, rather than a search for each element, keeps matching
// short even where many ancestors could stand for many compounds.
type Set uint64

// Has tells whether an element is in a set. No element at all (-1, the root's parent) is in none.
func (s Set) Has(elem int) bool {
	return elem >= 0 && s>>elem&1 == 1
}

// Page is elements that are known to be a page.
type Page struct {
	elems []api.Elem
}

// Of makes a page of elements, if they are one.
func Of(elems []api.Elem) (Page, bool) {
	if !isPage(elems) {
		return Page{}, false
	}
	return Page{elems}, true
}

// Has tells whether there is an element of that number.
func (p Page) Has(elem int) bool {
	return 0 <= elem && elem < len(p.elems)
}

// Size is how many elements there are.
func (p Page) Size() int {
	return len(p.elems)
}

// Parent is the number of an element's parent, of the root -1.
func (p Page) Parent(elem int) int {
	return p.elems[elem].Parent
}

// Where is the elements that pass a test.
func (p Page) Where(passes func(elem api.Elem) bool) Set {
	return p.numbered(func(elem int) bool { return passes(p.elems[elem]) })
}

func (p Page) numbered(passes func(elem int) bool) Set {
	var s Set
	for elem := range p.elems {
		if passes(elem) {
			s |= 1 << elem
		}
	}
	return s
}

// All is every element.
func (p Page) All() Set {
	return 1<<len(p.elems) - 1
}

// Root is the root alone.
func (p Page) Root() Set {
	return 1
}

// Without is every element that is not in a set.
func (p Page) Without(s Set) Set {
	return p.All() &^ s
}

// Children is the elements whose parent is in a set.
func (p Page) Children(s Set) Set {
	return p.numbered(func(elem int) bool { return s.Has(p.elems[elem].Parent) })
}

// Below is the elements that have an ancestor in a set.
func (p Page) Below(s Set) Set {
	var below Set
	// A parent stands ahead of its children, so that it is known by then whether it is below.
	for elem := range p.elems {
		if parent := p.elems[elem].Parent; s.Has(parent) || below.Has(parent) {
			below |= 1 << elem
		}
	}
	return below
}

// Next is the elements behind one in a set, with the same parent and none between.
func (p Page) Next(s Set) Set {
	return p.numbered(func(elem int) bool {
		ahead := p.ahead(elem)
		return len(ahead) > 0 && s.Has(ahead[len(ahead)-1])
	})
}

// Behind is the elements that have one of a set ahead of them, with the same parent.
func (p Page) Behind(s Set) Set {
	return p.numbered(func(elem int) bool {
		for _, other := range p.ahead(elem) {
			if s.Has(other) {
				return true
			}
		}
		return false
	})
}

// At is the elements whose place among their parent's children passes a test. The first place is 1; the root is there.
func (p Page) At(passes func(place int) bool) Set {
	return p.numbered(func(elem int) bool { return passes(len(p.ahead(elem)) + 1) })
}

// Last is the elements that are their parent's last child, and the root.
func (p Page) Last() Set {
	last := p.All()
	for elem := range p.elems {
		for _, other := range p.ahead(elem) {
			last &^= 1 << other
		}
	}
	return last
}

// Empty is the elements without children.
func (p Page) Empty() Set {
	empty := p.All()
	for _, elem := range p.elems[1:] {
		empty &^= 1 << elem.Parent
	}
	return empty
}

// ahead gives the children of an element's parent that stand ahead of it, in their order.
func (p Page) ahead(elem int) []int {
	var ahead []int
	for other := range elem {
		if p.elems[other].Parent == p.elems[elem].Parent {
			ahead = append(ahead, other)
		}
	}
	return ahead
}
