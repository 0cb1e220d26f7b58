package cascade

import (
	"slices"
	"testing"

	"rinse/api"
	"rinse/rules"
	"rinse/scan"
	"rinse/tree"
	"rinse/values"
	"rinse/write"
)

func read(text string) []values.Value {
	list, _ := values.Read(scan.Tokens(text))
	return list
}

// of lays sheets on a page of an html with a p in it.
func of(t *testing.T, sheets ...string) Cascade {
	t.Helper()
	page, ok := tree.Of([]api.Elem{{Parent: -1, Tag: "html"}, {Parent: 0, Tag: "p"}})
	if !ok {
		t.Fatal("no page")
	}
	var all [][]rules.Rule
	for _, sheet := range sheets {
		all = append(all, rules.Read(read(sheet)))
	}
	return Of(page, all...)
}

func TestComesTo(t *testing.T) {
	c := of(t, "html{color:1;top:2;--x:3}", "p{left:var(--x)}")
	for _, want := range []struct {
		elem           int
		property, text string
	}{
		{-1, "color", ""}, {0, "color", "1"}, {1, "color", "1"}, {0, "top", "2"}, {1, "top", ""}, {1, "left", "3"}, {0, "left", ""}, {1, "--x", "3"}, {0, "", ""},
	} {
		for range 2 {
			if got := c.ComesTo(want.elem, want.property); got != want.text {
				t.Errorf("%s of %d: %q, want %q", want.property, want.elem, got, want.text)
			}
		}
	}
	if got := of(t).ComesTo(1, "color"); got != "" {
		t.Errorf("without sheets: %q", got)
	}
}

func TestReadVar(t *testing.T) {
	for _, c := range []struct {
		text        string
		ok          bool
		name        string
		hasFallback bool
		fallback    string
	}{
		{"--x", true, "--x", false, ""},
		{" --X ", true, "--X", false, ""},
		{"--x,", true, "--x", true, ""},
		{" --x , a , b ", true, "--x", true, "a , b"},
		{"--", true, "--", false, ""},
		{"", false, "", false, ""},
		{"x", false, "", false, ""},
		{"-x", false, "", false, ""},
		{"'--x'", false, "", false, ""},
		{"--x y", false, "", false, ""},
		{"--x y,z", false, "", false, ""},
		{",--x", false, "", false, ""},
	} {
		got, ok := readVar(read(c.text))
		if ok != c.ok || got.name != c.name || got.hasFallback != c.hasFallback || write.Values(got.fallback) != c.fallback {
			t.Errorf("readVar(%q) = %+v, %v", c.text, got, ok)
		}
	}
}

func TestNames(t *testing.T) {
	for _, c := range []struct {
		text string
		want []string
	}{
		{"a --b", nil},
		{"var(--a)", []string{"--a"}},
		{"VAR(--a) f([{var(--b)}])", []string{"--a", "--b"}},
		{"var(--a,var(--b,c var(--d)))", []string{"--a", "--b", "--d"}},
		{"var(x,var(--b))", []string{"--b"}},
		{"var(var(--b))", []string{"--b"}},
	} {
		if got := names(read(c.text)); !slices.Equal(got, c.want) {
			t.Errorf("names(%q) = %q, want %q", c.text, got, c.want)
		}
	}
}

func TestNamesItself(t *testing.T) {
	c := of(t, "p{--a:var(--b);--b:var(--c,var(--a));--c:var(--d);--d:var(--c);--e:var(--a);--f:var(--no);top:var(--a)}")
	for property, want := range map[string]bool{"--a": true, "--b": true, "--c": true, "--d": true, "--e": false, "--f": false, "--no": false, "top": false} {
		if got := c.namesItself(1, property); got != want {
			t.Errorf("%s names itself: %v", property, got)
		}
		if c.namesItself(0, property) {
			t.Errorf("%s names itself where it is not", property)
		}
	}
}
