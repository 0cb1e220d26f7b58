package selectors

import (
	"slices"
	"strings"

	"rinse/api"
	"rinse/tree"
)

type (
	// star is `*`.
	star struct{}

	// tag has its name in small letters.
	tag struct{ name string }

	id struct{ name string }

	class struct{ name string }

	// attr has the relation `=`, `~=`, `^=`, `$=` or `*=`, or none: then the attribute need only be there.
	attr struct{ name, relation, value string }

	// state is one of the names behind `:` that are Idents, in small letters.
	state struct{ name string }

	// place is `odd` or `even`, or, if it has no name, a number.
	place struct {
		name   string
		number int
	}

	// not matches what its list does not.
	not struct{ list List }

	// is matches what its list does.
	is struct{ list List }
)

func (star) on(page tree.Page) tree.Set {
	return page.All()
}

func (t tag) on(page tree.Page) tree.Set {
	return page.Where(func(elem api.Elem) bool { return elem.Tag == t.name })
}

func (i id) on(page tree.Page) tree.Set {
	// A Hash always has a name, so that an element without an id is none of these.
	return page.Where(func(elem api.Elem) bool { return elem.Id == i.name })
}

func (c class) on(page tree.Page) tree.Set {
	return page.Where(func(elem api.Elem) bool { return slices.Contains(elem.Classes, c.name) })
}

func (a attr) on(page tree.Page) tree.Set {
	return page.Where(func(elem api.Elem) bool {
		for _, found := range elem.Attrs {
			if found.Name == a.name {
				// The first one alone counts, also where a later one would fit.
				return a.fits(found.Value)
			}
		}
		return false
	})
}

func (a attr) fits(value string) bool {
	switch a.relation {
	case "=":
		return value == a.value
	case "~=":
		return slices.Contains(strings.Fields(value), a.value)
	case "^=":
		return a.value != "" && strings.HasPrefix(value, a.value)
	case "$=":
		return a.value != "" && strings.HasSuffix(value, a.value)
	case "*=":
		return a.value != "" && strings.Contains(value, a.value)
	}
	return true
}

func (s state) on(page tree.Page) tree.Set {
	switch s.name {
	case "root":
		return page.Root()
	case "first-child":
		return page.At(func(place int) bool { return place == 1 })
	case "last-child":
		return page.Last()
	}
	return page.Empty()
}

func (p place) on(page tree.Page) tree.Set {
	return page.At(func(place int) bool {
		switch p.name {
		case "odd":
			return place%2 == 1
		case "even":
			return place%2 == 0
		}
		return place == p.number
	})
}

func (n not) on(page tree.Page) tree.Set {
	return page.Without(n.list.On(page))
}

func (i is) on(page tree.Page) tree.Set {
	return i.list.On(page)
}
