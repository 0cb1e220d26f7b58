package rules

import (
	"strings"
	"testing"

	"rinse/scan"
	"rinse/values"
	"rinse/write"
)

func read(text string) []values.Value {
	list, _ := values.Read(scan.Tokens(text))
	return list
}

// told tells rules, each with `|` behind it: an at-rule's name, the head, and the body if there is one.
func told(rules []Rule) string {
	all := ""
	for _, rule := range rules {
		if rule.At != "" {
			all += "@" + rule.At
		}
		all += "<" + write.Values(rule.Head) + ">"
		if rule.HasBody {
			all += "{" + write.Values(rule.Body) + "}"
		}
		all += "|"
	}
	return all
}

func TestRead(t *testing.T) {
	for _, c := range []struct{ text, want string }{
		{"", ""},
		{" \n", ""},
		{"a{b}", "<a>{b}|"},
		{" a {b} c{}", "<a >{b}|<c>{}|"},
		{"{}", "<>{}|"},
		{"a", ""},
		{"a{b}c", "<a>{b}|"},
		{"a{b", "<a>{b}|"},
		{"a;b{c}", "<a;b>{c}|"},
		{"a(b{c})d{e}", "<a(b{c})d>{e}|"},
		{"}a{b}", "<}a>{b}|"},
		{"<!-- a{b} --> c{d} <!--", "<a>{b}|<c>{d}|"},
		{"a<!--{b}", "<a/**/<!-->{b}|"},
		{"@a;", "@a<>|"},
		{"@a b;c{d}", "@a< b>|<c>{d}|"},
		{"@a b{c}d{e}", "@a< b>{c}|<d>{e}|"},
		{"@a{b;c}", "@a<>{b;c}|"},
		{"@a", "@a<>|"},
		{"@a b", "@a< b>|"},
		{"@a (;{}) b;", "@a< (;{}) b>|"},
		{"@a @b;", "@a< @b>|"},
		{"@A{", "@A<>{}|"},
		{"a @b{c}", "<a @b>{c}|"},
		{"@a;;b{c}", "@a<>|<;b>{c}|"},
	} {
		if got := told(Read(read(c.text))); got != c.want {
			t.Errorf("Read(%q) = %q, want %q", c.text, got, c.want)
		}
	}
}

// In a body Open and Close are values like others; all else is as in a sheet.
func TestReadBody(t *testing.T) {
	for _, c := range []struct{ text, want string }{
		{"", ""},
		{" a{b} @c d{e} @f;", "<a>{b}|@c< d>{e}|@f<>|"},
		{"a", ""},
		{"<!-- a{b} c{d}", "<<!-- a>{b}|<c>{d}|"},
		{"a{b}-->c{d}", "<a>{b}|<-->/**/c>{d}|"},
		{"-->", ""},
	} {
		if got := told(ReadBody(read(c.text))); got != c.want {
			t.Errorf("ReadBody(%q) = %q, want %q", c.text, got, c.want)
		}
	}
}

func TestDeclarations(t *testing.T) {
	for _, c := range []struct{ text, want string }{
		{"", ""},
		{" ; ;; ", ""},
		{"a:b", "a=b"},
		{" A : b c ; --A:d;", "a=b c|--A=d"},
		{"a:", "a="},
		{"a : ;", "a="},
		{"a", ""},
		{"a b:c", ""},
		{"1:2;a:b", "a=b"},
		{"a{}b:c;d:e", "d=e"},
		{"@a b:c;d:e", "d=e"},
		{"@a {b:c;} d:e", "d=e"},
		{"; @a {b:c;} d:e", "d=e"},
		{"a:b @c{d} e;f:g", "a=b @c{d} e|f=g"},
		{"a:(b;c);d:{e;f}", "a=(b;c)|d={e;f}"},
		{"a:b!important", "a=b!"},
		{"a:b ! IMPORTANT ;c:d", "a=b!|c=d"},
		{"a:!important", "a=!"},
		{"a:important", "a=important"},
		{"a:b important", "a=b important"},
		{"a:b!important c", "a=b/**/!/**/important c"},
		{"a:b!(important)", "a=b/**/!/**/(important)"},
		{"a:b!important!important", "a=b/**/!/**/important!"},
	} {
		var parts []string
		for _, d := range Declarations(read(c.text)) {
			part := d.Property + "=" + write.Values(d.Value)
			if d.Important {
				part += "!"
			}
			parts = append(parts, part)
		}
		if got := strings.Join(parts, "|"); got != c.want {
			t.Errorf("Declarations(%q) = %q, want %q", c.text, got, c.want)
		}
	}
}

func TestProperty(t *testing.T) {
	for _, c := range []struct {
		name, want string
		custom     bool
	}{
		{"", "", false}, {"Top", "top", false}, {"-X", "-x", false}, {"--X", "--X", true}, {"--", "--", true}, {"X--", "x--", false}, {"\xc3\x89", "\xc3\x89", false},
	} {
		if got := Property(c.name); got != c.want || IsCustom(c.name) != c.custom {
			t.Errorf("%q: %q, %v", c.name, got, !c.custom)
		}
	}
}
