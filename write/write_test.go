package write

import (
	"testing"

	"rinse/api"
	"rinse/scan"
	"rinse/values"
)

func TestName(t *testing.T) {
	for name, want := range map[string]string{
		"":       "",
		"azAZ_":  "azAZ_",
		"a09-":   "a09-",
		"0a":     `\30 a`,
		"9":      `\39 `,
		"-0":     `-\30 `,
		"-a0":    "-a0",
		"--0":    "--0",
		"-":      `\2d `,
		"--":     "--",
		"a b":    `a\20 b`,
		"\x01":   `\01 `,
		"\xff":   `\ff `,
		"@[`{/:": `\40 \5b \60 \7b \2f \3a `,
	} {
		if got := Name(name); got != want {
			t.Errorf("Name(%q) = %q, want %q", name, got, want)
		}
	}
}

func TestText(t *testing.T) {
	for text, want := range map[string]string{
		"":                 `""`,
		" ~a'`":            "\" ~a'`\"",
		"\"\\<>":           `"\22 \5c \3c \3e "`,
		"\x1f\x7f\x80\n\t": `"\1f \7f \80 \0a \09 "`,
	} {
		if got := Text(text); got != want {
			t.Errorf("Text(%q) = %q, want %q", text, got, want)
		}
	}
}

// Bad ones never come out of a call, but they are written.
func TestBad(t *testing.T) {
	for text, want := range map[string]string{
		"'a\n":         "\"\n ",
		"url(a b)":     "url(()",
		"a/**/url(a b": "a/**/url(()",
		"url(a b)c":    "url(()/**/c",
	} {
		list, _ := values.Read(scan.Tokens(text))
		if got := Values(list); got != want {
			t.Errorf("Values(%q) = %q, want %q", text, got, want)
		}
	}
}

// A text that is written already stands as an Ident does.
func TestWritten(t *testing.T) {
	list, _ := values.Read(scan.Tokens("a/**/X/**/b X,X(c)X[d]f()X X"))
	for i, v := range list {
		if v.Word == "X" && v.Kind == api.Ident {
			list[i] = values.Value{Token: api.Token{Kind: values.Written, Word: "<,"}}
		}
	}
	const want = "a/**/<,/**/b <,,X(c)<,[d]f()<, <,"
	if got := Values(list); got != want {
		t.Errorf("%q, want %q", got, want)
	}
}

func TestNothing(t *testing.T) {
	if got := Values(nil); got != "" {
		t.Errorf("%q", got)
	}
}
