package selectors

import "testing"

func TestWritten(t *testing.T) {
	for text, want := range map[string]string{
		"*":                                  "*",
		"P":                                  "p",
		"#A":                                 "#A",
		".X.y":                               ".X.y",
		"[ k ]":                              "[k]",
		"[k=v][k~=v][k^=v][k$=v][k*='']":     `[k="v"][k~="v"][k^="v"][k$="v"][k*=""]`,
		":ROOT:first-child":                  ":root:first-child",
		":nth-child( 010 ):nth-child( Odd )": ":nth-child(10):nth-child(odd)",
		":not( a ,b>c ):is( * )":             ":not(a,b > c):is(*)",
		"a b>c+d~e":                          "a b > c + d ~ e",
		`\31 .\-#\{[\=]`:                     `\31 .\2d #\7b [\3d ]`,
	} {
		list, ok := read(text)
		if !ok || len(list) != 1 {
			t.Fatalf("%q: %+v, %v", text, list, ok)
		}
		got := list[0].Written()
		if got != want {
			t.Errorf("%q is written %q, want %q", text, got, want)
		}
		if again, ok := read(got); !ok || len(again) != 1 || again[0].Written() != got {
			t.Errorf("%q is read again as %+v, %v", got, again, ok)
		}
	}
}
