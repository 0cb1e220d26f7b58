package scan

import (
	"strings"
	"testing"

	"rinse/api"
)

// The way of the scanner: all tokens are in the channel, and it is closed, ahead of the first reading.
func TestChannelHoldsAllAndIsClosed(t *testing.T) {
	for _, sheet := range []string{"", "/**/", "a", "{{{{", "a b", "\r\n\r\n", strings.Repeat(";", 600)} {
		out := Tokens(sheet)
		held := len(out)
		if held > cap(out) {
			t.Errorf("%q: %d tokens in a room of %d", sheet, held, cap(out))
		}
		read := 0
		for range out {
			read++
		}
		if read != held {
			t.Errorf("%q: %d tokens read, %d held", sheet, read, held)
		}
		if _, open := <-out; open {
			t.Errorf("%q: not closed", sheet)
		}
	}
}

func TestClean(t *testing.T) {
	cases := []struct{ sheet, want string }{
		{"", ""},
		{"a\r\nb", "a\nb"},
		{"a\rb\r", "a\nb\n"},
		{"\r\r\n\n\r", "\n\n\n\n"},
		{"\f\r\f", "\n\n\n"},
		{"\x00a\x00", "?a?"},
		{"\v\x01\x7f\x80\xff", "\v\x01\x7f\x80\xff"},
	}
	for _, c := range cases {
		if got := clean(c.sheet); got != c.want {
			t.Errorf("clean(%q) = %q, want %q", c.sheet, got, c.want)
		}
	}
}

func TestKindsOfBytes(t *testing.T) {
	const digits = "0123456789"
	const letters = "abcdefghijklmnopqrstuvwxyzABCDEFGHIJKLMNOPQRSTUVWXYZ_"
	in := func(set string, c int) bool { return strings.IndexByte(set, byte(c)) >= 0 }
	for c := range 256 {
		letter := in(letters, c) || c > 127
		if isLetter(c) != letter {
			t.Errorf("isLetter(%d) = %v", c, !letter)
		}
		if name := letter || in(digits+"-", c); isNameByte(c) != name {
			t.Errorf("isNameByte(%d) = %v", c, !name)
		}
		if blank := in("\n\t ", c); isBlank(c) != blank {
			t.Errorf("isBlank(%d) = %v", c, !blank)
		}
		if hex := in(digits+"abcdefABCDEF", c); (hexValue(c) >= 0) != hex {
			t.Errorf("hexValue(%d) = %d", c, hexValue(c))
		}
	}
	if isLetter(none) || isNameByte(none) || isBlank(none) || isDigit(none) || hexValue(none) >= 0 {
		t.Error("what stands behind the last byte is of a kind")
	}
}

func TestEveryByteAlone(t *testing.T) {
	for c := range 256 {
		sheet := string([]byte{byte(c)})
		want := api.Token{Kind: api.Sign, Word: sheet}
		switch {
		case c == 0:
			want.Word = "?"
		case c == '\n' || c == '\t' || c == ' ' || c == '\r' || c == '\f':
			want = api.Token{Kind: api.Blank}
		case c == '"' || c == '\'':
			want = api.Token{Kind: api.Text}
		case c == '\\':
			want = api.Token{Kind: api.Ident, Word: "?"}
		case isDigit(c):
			want.Kind = api.Number
		case isLetter(c):
			want.Kind = api.Ident
		}
		out := Tokens(sheet)
		if got := <-out; got != want || len(out) != 0 {
			t.Errorf("%q: %v and %d more, want %v", sheet, got, len(out), want)
		}
	}
}
