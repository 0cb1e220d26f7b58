package texts

import "testing"

func TestJoin(t *testing.T) {
	cases := []struct {
		parts []string
		want  string
	}{
		{nil, ""},
		{[]string{""}, ""},
		{[]string{"a"}, "a"},
		{[]string{"a", "", "bc"}, "abc"},
		{[]string{"\xc3", "\xa9", "\x00"}, "\xc3\xa9\x00"},
	}
	for _, c := range cases {
		if got := Join(c.parts...); got != c.want {
			t.Errorf("Join(%q) = %q, want %q", c.parts, got, c.want)
		}
	}
}

func TestJoinBy(t *testing.T) {
	cases := []struct {
		between string
		parts   []string
		want    string
	}{
		{",", nil, ""},
		{",", []string{"a"}, "a"},
		{",", []string{"a", "", "b"}, "a,,b"},
		{"", []string{"a", "b"}, "ab"},
		{", ", []string{"", ""}, ", "},
	}
	for _, c := range cases {
		if got := JoinBy(c.between, c.parts...); got != c.want {
			t.Errorf("JoinBy(%q, %q) = %q, want %q", c.between, c.parts, got, c.want)
		}
	}
}

func TestJoinLeavesItsPartsAlone(t *testing.T) {
	parts := make([]string, 2, 3)
	parts[0], parts[1] = "a", "b"
	Join(parts...)
	if whole := parts[:3]; whole[0] != "a" || whole[1] != "b" || whole[2] != "" {
		t.Errorf("Join changed its parts to %q", whole)
	}
}

func TestSmall(t *testing.T) {
	cases := []struct{ text, want string }{
		{"", ""},
		{"AZaz", "azaz"},
		{"@[`{09-_", "@[`{09-_"},
		{"\xc3\x89\xff\x80", "\xc3\x89\xff\x80"},
		{"\u212a", "\u212a"},
	}
	for _, c := range cases {
		if got := Small(c.text); got != c.want {
			t.Errorf("Small(%q) = %q, want %q", c.text, got, c.want)
		}
	}
}
