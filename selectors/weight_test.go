package selectors

import (
	"testing"

	"rinse/api"
	"rinse/tree"
)

func TestWeight(t *testing.T) {
	for text, want := range map[string]Weight{
		"*":                         {0, 0, 0},
		"p":                         {0, 0, 1},
		"#a":                        {1, 0, 0},
		".x":                        {0, 1, 0},
		"[k]":                       {0, 1, 0},
		"[k=v]":                     {0, 1, 0},
		":root":                     {0, 1, 0},
		":nth-child(odd)":           {0, 1, 0},
		":not(*)":                   {0, 0, 0},
		":not(p)":                   {0, 0, 1},
		":is(p,.x,#a,p#a.x,#a.x.y)": {1, 2, 0},
		":not(:is(p b, .x))":        {0, 1, 0},
		"*#a.x[k]:root:empty p > b": {1, 4, 2},
		"a b>c+d~e":                 {0, 0, 5},
		"#a#a #a":                   {3, 0, 0},
	} {
		list, ok := read(text)
		if !ok || list[0].weight() != want {
			t.Errorf("%q weighs %v, want %v", text, list[0].weight(), want)
		}
	}
}

func TestCompare(t *testing.T) {
	rising := []Weight{{0, 0, 0}, {0, 0, 1}, {0, 0, 99}, {0, 1, 0}, {0, 1, 1}, {0, 99, 99}, {1, 0, 0}, {1, 0, 1}, {1, 1, 0}, {2, 0, 0}}
	for i, one := range rising {
		for j, other := range rising {
			if got := one.Compare(other); got < 0 != (i < j) || got > 0 != (i > j) {
				t.Errorf("%v against %v: %d", one, other, got)
			}
		}
	}
}

func TestClaims(t *testing.T) {
	page, ok := tree.Of([]api.Elem{{Parent: -1, Tag: "p"}, {Parent: 0, Tag: "b", Id: "a"}, {Parent: 0, Tag: "p"}})
	list, okList := read("p, #a, #z")
	if !ok || !okList {
		t.Fatal("no page, or no selectors")
	}
	want := []Claim{{0b101, Weight{0, 0, 1}}, {0b010, Weight{1, 0, 0}}, {0, Weight{1, 0, 0}}}
	got := list.Claims(page)
	if len(got) != len(want) {
		t.Fatalf("%v", got)
	}
	for i := range got {
		if got[i] != want[i] {
			t.Errorf("claim %d: %v, want %v", i, got[i], want[i])
		}
	}
}
