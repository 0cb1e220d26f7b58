package selectors

import (
	"testing"

	"rinse/scan"
	"rinse/values"
)

func read(text string) (List, bool) {
	list, _ := values.Read(scan.Tokens(text))
	return Read(list)
}

func TestReadCombinators(t *testing.T) {
	list, ok := read("a b>c + d~e, f")
	if !ok || len(list) != 2 || len(list[0]) != 5 || len(list[1]) != 1 {
		t.Fatalf("%+v, %v", list, ok)
	}
	for i, want := range []Combinator{First, Below, Child, Next, Further} {
		if got := list[0][i].Combinator; got != want {
			t.Errorf("combinator %d is %d, want %d", i, got, want)
		}
	}
}

func TestReadParts(t *testing.T) {
	list, ok := read(`P.X#Y[a][b="c"][d ~= E]:ROOT:nth-child(007):nth-child(Odd)`)
	want := []Part{
		tag{"p"}, class{"X"}, id{"Y"}, attr{"a", "", ""}, attr{"b", "=", "c"}, attr{"d", "~=", "E"}, state{"root"}, place{"", 7}, place{"odd", 0},
	}
	if !ok || len(list) != 1 || len(list[0]) != 1 || len(list[0][0].Compound) != len(want) {
		t.Fatalf("%+v, %v", list, ok)
	}
	for i, part := range list[0][0].Compound {
		if part != want[i] {
			t.Errorf("part %d is %+v, want %+v", i, part, want[i])
		}
	}
}

func TestReadNothing(t *testing.T) {
	for _, text := range []string{"", "a,", "a b,c{}", ":not(a,)", "a > "} {
		if list, ok := read(text); ok || list != nil {
			t.Errorf("%q: %+v, %v", text, list, ok)
		}
	}
}

func TestReadNumber(t *testing.T) {
	for word, want := range map[string]int{"0": 0, "000": 0, "7": 7, "0999": 999, "1000": -1, "+1": -1, "1.0": -1, "1e0": -1, "99999999999999999999": -1} {
		got, ok := readNumber(word)
		if ok != (want >= 0) || ok && got != want {
			t.Errorf("readNumber(%q) = %d, %v", word, got, ok)
		}
	}
}
