package tree

import (
	"testing"

	"rinse/api"
)

// of makes a page of the numbers of parents.
func of(t *testing.T, parents ...int) Page {
	t.Helper()
	var elems []api.Elem
	for _, parent := range parents {
		elems = append(elems, api.Elem{Parent: parent, Tag: "p"})
	}
	page, ok := Of(elems)
	if !ok {
		t.Fatalf("%v is no page", parents)
	}
	return page
}

func set(elems ...int) Set {
	var s Set
	for _, elem := range elems {
		s |= 1 << elem
	}
	return s
}

// The page is 0 (1 (3 (6) 5) 2 4): the children of one parent do not stand one behind the other in the list.
func TestRelations(t *testing.T) {
	page := of(t, -1, 0, 0, 1, 0, 1, 3)
	for _, c := range []struct {
		what      string
		got, want Set
	}{
		{"all", page.All(), set(0, 1, 2, 3, 4, 5, 6)},
		{"root", page.Root(), set(0)},
		{"without", page.Without(set(0, 6)), set(1, 2, 3, 4, 5)},
		{"children of 0", page.Children(set(0)), set(1, 2, 4)},
		{"children of 1 and 3", page.Children(set(1, 3)), set(3, 5, 6)},
		{"children of none", page.Children(set()), set()},
		{"below 0", page.Below(set(0)), set(1, 2, 3, 4, 5, 6)},
		{"below 1", page.Below(set(1)), set(3, 5, 6)},
		{"below 2", page.Below(set(2)), set()},
		{"next to 1", page.Next(set(1)), set(2)},
		{"next to 2 and 3", page.Next(set(2, 3)), set(4, 5)},
		{"next to 0 and 4", page.Next(set(0, 4)), set()},
		{"behind 1", page.Behind(set(1)), set(2, 4)},
		{"behind 2 and 3", page.Behind(set(2, 3)), set(4, 5)},
		{"behind 0", page.Behind(set(0)), set()},
		{"first", page.At(func(place int) bool { return place == 1 }), set(0, 1, 3, 6)},
		{"third", page.At(func(place int) bool { return place == 3 }), set(4)},
		{"last", page.Last(), set(0, 4, 5, 6)},
		{"empty", page.Empty(), set(2, 4, 5, 6)},
		{"where", page.Where(func(elem api.Elem) bool { return elem.Parent == 1 }), set(3, 5)},
	} {
		if c.got != c.want {
			t.Errorf("%s: %b, want %b", c.what, c.got, c.want)
		}
	}
}

func TestParent(t *testing.T) {
	parents := []int{-1, 0, 0, 1, 0, 1, 3}
	page := of(t, parents...)
	if page.Size() != len(parents) {
		t.Errorf("the size is %d", page.Size())
	}
	for elem, want := range parents {
		if got := page.Parent(elem); got != want {
			t.Errorf("the parent of %d is %d, want %d", elem, got, want)
		}
	}
}

func TestHas(t *testing.T) {
	page := of(t, -1, 0)
	for elem, want := range map[int]bool{-1 << 63: false, -1: false, 0: true, 1: true, 2: false, 64: false, 1<<63 - 1: false} {
		if page.Has(elem) != want {
			t.Errorf("the page has %d: %v", elem, !want)
		}
		if page.All().Has(elem) != want {
			t.Errorf("the set has %d: %v", elem, !want)
		}
	}
	if _, ok := Of(nil); ok {
		t.Error("nothing is a page")
	}
}
