package policy

import (
	"testing"

	"rinse/api"
	"rinse/scan"
	"rinse/values"
)

func of(t *testing.T, given api.Policy) Policy {
	t.Helper()
	p, ok := Of(given)
	if !ok {
		t.Fatalf("%+v may not be", given)
	}
	return p
}

func TestOf(t *testing.T) {
	if p := of(t, api.Policy{Root: "r"}); p.Root() != "r" {
		t.Errorf("the root is %q", p.Root())
	}
	if p, ok := Of(api.Policy{Root: "R", Custom: true}); ok || p.Root() != "" || p.PropertyMayBe("--x") {
		t.Errorf("%+v, %v", p, ok)
	}
	if p, ok := Of(api.Policy{Properties: []string{"color", "-x"}}); ok || p.PropertyMayBe("color") {
		t.Errorf("%+v, %v", p, ok)
	}
}

func TestPropertyMayBe(t *testing.T) {
	for _, custom := range []bool{false, true} {
		p := of(t, api.Policy{Properties: []string{"color", "a-b"}, Functions: []string{"f"}, AtRules: []string{"m"}, Custom: custom})
		for property, want := range map[string]bool{
			"color": true, "a-b": true, "colo": false, "": false, "-a": false, "f": false, "m": false, "--x": custom, "--": custom, "--color": custom,
		} {
			if got := p.PropertyMayBe(property); got != want {
				t.Errorf("%q, custom ones %v: %v", property, custom, got)
			}
		}
	}
}

func TestAtRuleMayBe(t *testing.T) {
	p := of(t, api.Policy{Properties: []string{"color"}, Functions: []string{"f"}, AtRules: []string{"m", "-"}})
	for name, want := range map[string]bool{"m": true, "-": true, "": false, "f": false, "color": false, "mm": false} {
		if got := p.AtRuleMayBe(name); got != want {
			t.Errorf("%q: %v", name, got)
		}
	}
}

func TestIsHarmless(t *testing.T) {
	p := of(t, api.Policy{Properties: []string{"color"}, Functions: []string{"f"}, AtRules: []string{"m"}})
	withTexts := of(t, api.Policy{Functions: []string{"f"}, Texts: true})
	for _, c := range []struct {
		text            string
		want, withTexts bool
	}{
		{"", true, true},
		{"a #b 1 2% 3px", true, true},
		{"F([{+-*/.,:%=}])", true, true},
		{"'a'", false, true},
		{"f(('a'))", false, true},
		{"'a\n", false, false},
		{"url(a)", false, false},
		{"(url(a b))", false, false},
		{"g()", false, false},
		{"color()", false, false},
		{"f(m())", false, false},
		{"@m", false, false},
		{"<!--", false, false},
		{"[-->]", false, false},
		{")", false, false},
		{"(])", false, false},
		{"a;", false, false},
		{"!", false, false},
		{"\x01", false, false},
	} {
		list, _ := values.Read(scan.Tokens(c.text))
		if got := p.IsHarmless(list); got != c.want {
			t.Errorf("%q: %v", c.text, got)
		}
		if got := withTexts.IsHarmless(list); got != c.withTexts {
			t.Errorf("%q, where texts may be: %v", c.text, got)
		}
	}
	// A text that is written already could be anything.
	if written := (values.Value{Token: api.Token{Kind: values.Written, Word: "a"}}); p.IsHarmless([]values.Value{written}) {
		t.Error("what is written already is harmless")
	}
}
