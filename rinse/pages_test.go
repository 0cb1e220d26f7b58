package rinse

import (
	"strings"
	"testing"

	"rinse/api"
)

// changed gives the page of the family with one thing done to its element 3.
func changed(change func(elem *api.Elem)) []api.Elem {
	page := family()
	change(&page[3])
	return page
}

func wide(elems int) []api.Elem {
	page := []api.Elem{{Parent: -1, Tag: "html"}}
	for len(page) < elems {
		page = append(page, api.Elem{Tag: "p"})
	}
	return page
}

func rooted(parent int) []api.Elem {
	page := family()
	page[0].Parent = parent
	return page
}

func TestP4Pages(t *testing.T) {
	name := strings.Repeat("z", api.MaxNames)
	value := strings.Repeat("z", 2*api.MaxNames)
	for what, page := range map[string][]api.Elem{
		"one element":          wide(1),
		"as many as may be":    wide(api.MaxElems),
		"parent just ahead":    changed(func(elem *api.Elem) { elem.Parent = 2 }),
		"parent the root":      changed(func(elem *api.Elem) { elem.Parent = 0 }),
		"long tag":             changed(func(elem *api.Elem) { elem.Tag = name }),
		"long id":              changed(func(elem *api.Elem) { elem.Id = name }),
		"no id":                changed(func(elem *api.Elem) { elem.Id = "" }),
		"long class":           changed(func(elem *api.Elem) { elem.Classes = []string{name} }),
		"four classes":         changed(func(elem *api.Elem) { elem.Classes = []string{"a", "a", "c", "d"} }),
		"no lists":             changed(func(elem *api.Elem) { elem.Classes, elem.Attrs = nil, nil }),
		"four attributes":      changed(func(elem *api.Elem) { elem.Attrs = []api.Attr{{Name: "a"}, {Name: "b"}, {Name: "c"}, {Name: "a"}} }),
		"long attribute":       changed(func(elem *api.Elem) { elem.Attrs = []api.Attr{{Name: name, Value: value}} }),
		"all bytes of a name":  changed(func(elem *api.Elem) { elem.Tag, elem.Id = "az-09", "-" }),
		"all bytes of a value": changed(func(elem *api.Elem) { elem.Attrs = []api.Attr{{Name: "0", Value: " az - 09 "}} }),
	} {
		if matches, errno := Matches("*", page, len(page)-1); !matches || errno != api.OK {
			t.Errorf("P4: %s: %v, %d", what, matches, errno)
		}
	}
}

func TestP4NoPages(t *testing.T) {
	for what, page := range map[string][]api.Elem{
		"nil":                   nil,
		"no element":            {},
		"too many":              wide(api.MaxElems + 1),
		"very many":             wide(100 * api.MaxElems),
		"root in itself":        rooted(0),
		"root in another":       rooted(1),
		"root in -2":            rooted(-2),
		"root in the least":     rooted(-1 << 63),
		"parent itself":         changed(func(elem *api.Elem) { elem.Parent = 3 }),
		"parent behind":         changed(func(elem *api.Elem) { elem.Parent = 4 }),
		"second root":           changed(func(elem *api.Elem) { elem.Parent = -1 }),
		"parent -2":             changed(func(elem *api.Elem) { elem.Parent = -2 }),
		"parent is none":        changed(func(elem *api.Elem) { elem.Parent = 1<<63 - 1 }),
		"five classes":          changed(func(elem *api.Elem) { elem.Classes = []string{"a", "b", "c", "d", "e"} }),
		"five attributes":       changed(func(elem *api.Elem) { elem.Attrs = append(elem.Attrs, elem.Attrs[:2]...) }),
		"last element is wrong": append(family(), api.Elem{Tag: "P"}),
	} {
		checkNoPage(t, what, page)
	}
}

func TestP4NoNamesOfPages(t *testing.T) {
	for _, name := range []string{strings.Repeat("z", api.MaxNames+1), "A", "aZ", "a b", " ", "a_b", "a.b", "`", "{", "/", ":", "\x00", "\n", "\x80", "\xc3\xa9", "a\xff", "ı", "K"} {
		checkNoPage(t, "tag "+name, changed(func(elem *api.Elem) { elem.Tag = name }))
		checkNoPage(t, "id "+name, changed(func(elem *api.Elem) { elem.Id = name }))
		checkNoPage(t, "class "+name, changed(func(elem *api.Elem) { elem.Classes = []string{"x", name} }))
		checkNoPage(t, "attribute "+name, changed(func(elem *api.Elem) { elem.Attrs = []api.Attr{{Name: "k"}, {Name: name}} }))
	}
	checkNoPage(t, "no tag", changed(func(elem *api.Elem) { elem.Tag = "" }))
	checkNoPage(t, "no class", changed(func(elem *api.Elem) { elem.Classes = []string{"x", ""} }))
	checkNoPage(t, "no attribute", changed(func(elem *api.Elem) { elem.Attrs = []api.Attr{{Name: "", Value: "x"}} }))
	for _, value := range []string{strings.Repeat("z", 2*api.MaxNames+1), "A", "a_b", "a\tb", "\n", "a\u00a0", "\x80"} {
		checkNoPage(t, "value "+value, changed(func(elem *api.Elem) { elem.Attrs = []api.Attr{{Name: "k", Value: value}} }))
	}
}

// checkNoPage looks whether a page is refused, also where the selector would be.
func checkNoPage(t *testing.T, what string, page []api.Elem) {
	t.Helper()
	for _, s := range []string{"*", "p,", ""} {
		if matches, errno := Matches(s, page, 0); matches || errno != api.ErrPage {
			t.Errorf("P4: %q on a page with %q: %v, %d", s, what, matches, errno)
		}
	}
}

func TestP4Elements(t *testing.T) {
	for _, elem := range []int{-1, 9, 31, 63, 64, 65, 1 << 32, 1<<63 - 1, -1 << 63} {
		for _, s := range []string{"*", "p,", ":not(p)"} {
			if matches, errno := Matches(s, family(), elem); matches || errno != api.ErrPage {
				t.Errorf("P4: Matches(%q, .., %d) = %v, %d", s, elem, matches, errno)
			}
		}
	}
}

func TestP4Long(t *testing.T) {
	for _, s := range []string{strings.Repeat("p", api.MaxTest+1), strings.Repeat(",", api.MaxTest+1), strings.Repeat(" ", api.MaxTest) + "p", strings.Repeat("\r\n", api.MaxTest), strings.Repeat("(", 1<<20)} {
		if matches, errno := Matches(s, nil, -1); matches || errno != api.ErrLong {
			t.Errorf("P4: a selector of %d bytes: %v, %d", len(s), matches, errno)
		}
		if matches, errno := Matches(s, family(), 3); matches || errno != api.ErrLong {
			t.Errorf("P4: a selector of %d bytes: %v, %d", len(s), matches, errno)
		}
	}
	most := strings.Repeat(" ", api.MaxTest-1) + "p"
	if matches, errno := Matches(most, family(), 3); !matches || errno != api.OK {
		t.Errorf("P4: a selector of %d bytes: %v, %d", len(most), matches, errno)
	}
	if matches, errno := Matches(strings.Repeat("(", api.MaxTest), nil, 0); matches || errno != api.ErrPage {
		t.Errorf("P4: neither a page nor a selector: %v, %d", matches, errno)
	}
}
