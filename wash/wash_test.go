package wash

import (
	"testing"

	"rinse/api"
	"rinse/policy"
	"rinse/rules"
	"rinse/scan"
	"rinse/values"
)

func TestRules(t *testing.T) {
	p, ok := policy.Of(api.Policy{Root: "r", Properties: []string{"top"}, AtRules: []string{"m"}})
	if !ok {
		t.Fatal("no policy")
	}
	for text, want := range map[string]string{
		"":                                  "",
		"a,B{top:1;left:2;top:3!important}": ".r a,.r b{top:1;top:3!important}",
		"a{left:2}b{top:1}":                 ".r b{top:1}",
		"@m{a{top:1}@M x {b{top:2}}}":       "@m{.r a{top:1}@m x{.r b{top:2}}}",
		"@m{a{left:1}}@n{a{top:1}}":         "",
		"@m;a{top:1}":                       ".r a{top:1}",
		"@m !{a{top:1}}":                    "",
		"a{top:}a{top:!}":                   "",
	} {
		list, _ := values.Read(scan.Tokens(text))
		if got := Rules(p, rules.Read(list)); got != want {
			t.Errorf("of %q comes %q, want %q", text, got, want)
		}
	}
}
