package values

import (
	"strings"
	"testing"

	"rinse/api"
	"rinse/scan"
)

// shape tells values with `<` and `>` around what stands in a block.
func shape(list []Value) string {
	told := ""
	for _, v := range list {
		switch {
		case v.Kind == api.Blank:
			told += "_"
		case Closer(v.Token) != "":
			told += v.Word + "<" + shape(v.Inside) + ">"
		default:
			told += v.Word
		}
	}
	return told
}

func TestRead(t *testing.T) {
	for _, c := range []struct {
		text, want string
		depth      int
	}{
		{"", "", 0},
		{"a b", "a_b", 0},
		{"a(b)c", "a<b>c", 1},
		{"(a)[b]{c}", "(<a>[<b>{<c>", 1},
		{"([{a}])", "(<[<{<a>>>", 3},
		{"f(g(a)b)c", "f<g<a>b>c", 2},
		{"(", "(<>", 1},
		{"(a[b", "(<a[<b>>", 2},
		{")a]b}", ")a]b}", 0},
		{"(a]b)c", "(<a]b>c", 1},
		{"f(a}b)c", "f<a}b>c", 1},
		{"[a)b}c]d", "[<a)b}c>d", 1},
		{"{a (b}c)d}e", "{<a_(<b}c>d>e", 2},
		{"(a))b", "(<a>)b", 1},
		{"()()", "(<>(<>", 1},
		{"url(a)b", "ab", 0},
		{"'('b", "(b", 0},
		{strings.Repeat("(", 600), strings.Repeat("(<", 600) + strings.Repeat(">", 600), 600},
	} {
		list, depth := Read(scan.Tokens(c.text))
		if got := shape(list); got != c.want || depth != c.depth {
			t.Errorf("Read(%q) = %q, %d, want %q, %d", c.text, got, depth, c.want, c.depth)
		}
	}
}

func TestTrimAndSplit(t *testing.T) {
	for _, c := range []struct{ text, want string }{
		{"", ""},
		{" ", ""},
		{" a b ", "a_b"},
		{" /**/ a /**/ ", "a"},
		{",", "|"},
		{" a , b,(c,d), ", "a|b|(<c,d>|"},
		{"a;b", "a;b"},
		{"','", ","},
	} {
		list, _ := Read(scan.Tokens(c.text))
		var parts []string
		for _, part := range Split(list, ",") {
			parts = append(parts, shape(Trim(part)))
		}
		if got := strings.Join(parts, "|"); got != c.want {
			t.Errorf("%q: %q, want %q", c.text, got, c.want)
		}
	}
}

func TestCut(t *testing.T) {
	for _, c := range []struct{ text, ahead, stop, behind string }{
		{"", "", "", ""},
		{"a", "a", "", ""},
		{"a;b;c", "a", ";", "b;c"},
		{";", "", ";", ""},
		{"a{b;c}d;e", "a", "{", "d;e"},
		{"(a;b{c})d", "(<a;b{<c>>d", "", ""},
		{"';'a};b", ";a}", ";", "b"},
		{"#a @a a 1a", "a_a_a_1", "", ""},
	} {
		list, _ := Read(scan.Tokens(c.text))
		ahead, stop, behind := Cut(list, ";", "{")
		if shape(ahead) != c.ahead || stop.Word != c.stop || shape(behind) != c.behind {
			t.Errorf("Cut(%q) = %q, %q, %q", c.text, shape(ahead), stop.Word, shape(behind))
		}
		if (stop.Kind == api.Sign) != (c.stop != "") || shape(stop.Inside) != "" && c.stop != "{" {
			t.Errorf("Cut(%q) stops at %+v", c.text, stop)
		}
	}
}

func TestIsWord(t *testing.T) {
	for text, want := range map[string]bool{"word": true, "WoRD": true, "w\\6frd": true, "words": false, "'word'": false, "#word": false, "word()": false, "@word": false, "url(word)": false} {
		list, _ := Read(scan.Tokens(text))
		if got := list[0].IsWord("word"); got != want {
			t.Errorf("%q is the word: %v", text, got)
		}
	}
}
