package rinse

import (
	"slices"
	"strings"
	"testing"

	"rinse/api"
)

func word(kind int, word string) api.Token { return api.Token{Kind: kind, Word: word} }

func ident(name string) api.Token { return word(api.Ident, name) }

func sign(s string) api.Token { return word(api.Sign, s) }

func number(digits string) api.Token { return word(api.Number, digits) }

func text(s string) api.Token { return word(api.Text, s) }

func link(s string) api.Token { return word(api.Link, s) }

func measure(digits, unit string) api.Token {
	return api.Token{Kind: api.Dimension, Word: digits, Unit: unit}
}

var (
	blank   = word(api.Blank, "")
	badText = word(api.BadText, "")
	badLink = word(api.BadLink, "")
	open    = word(api.Open, "")
	closing = word(api.Close, "")
)

// tokenCase: a sheet, and its tokens.
type tokenCase struct {
	sheet string
	want  []api.Token
}

func of(sheet string, want ...api.Token) tokenCase { return tokenCase{sheet, want} }

func checkTokens(t *testing.T, cases ...tokenCase) {
	t.Helper()
	for _, c := range cases {
		got, errno := Tokens(c.sheet)
		if errno != api.OK || !slices.Equal(got, c.want) {
			t.Errorf("P3: Tokens(%q) = %+v, %d, want %+v", c.sheet, got, errno, c.want)
		}
	}
}

func TestP3Examples(t *testing.T) {
	checkTokens(t,
		of("a{x:1.5px}", ident("a"), sign("{"), ident("x"), sign(":"), measure("1.5", "px"), sign("}")),
		of(`\41 b/**/c`, ident("Ab"), ident("c")),
		of("url( a )", link("a")),
		of(`url("a")`, word(api.Function, "url"), text("a"), sign(")")),
		of("\"a\n", badText, blank),
		of("-1e3-->", measure("-1e3", "--"), sign(">")),
		of("--> #-", closing, blank, word(api.Hash, "-")),
	)
}

func TestP3Blanks(t *testing.T) {
	checkTokens(t,
		of(""),
		of("\n\t \r\n\r\f", blank),
		of("a\fb\rc", ident("a"), blank, ident("b"), blank, ident("c")),
		of("\va", sign("\v"), ident("a")),
		of("a\u00a0b", ident("a\u00a0b")),
	)
}

func TestP3Comments(t *testing.T) {
	checkTokens(t,
		of("/**/"),
		of("/* a"),
		of("/*/ a"),
		of("/***/a", ident("a")),
		of("/*a*/*/b", sign("*"), sign("/"), ident("b")),
		of("/*/*a*/b", ident("b")),
		of("a/**//**/b", ident("a"), ident("b")),
		of(" /**/ ", blank, blank),
		of("1/**/2", number("1"), number("2")),
		of("1/**/%", number("1"), sign("%")),
		of("a/**/(", ident("a"), sign("(")),
		of("url/**/(a)", ident("url"), sign("("), ident("a"), sign(")")),
		of("#/**/a", sign("#"), ident("a")),
		of("@/**/a", sign("@"), ident("a")),
		of("-/**/-a", sign("-"), ident("-a")),
		of("<!/**/--", sign("<"), sign("!"), ident("--")),
		of("/ /*", sign("/"), blank),
		of(`\/*a`, ident("/"), sign("*"), ident("a")),
		of(`/\*a`, sign("/"), ident("*a")),
	)
}

func TestP3Escapes(t *testing.T) {
	checkTokens(t,
		of(`\`, ident("?")),
		of(`a\`, ident("a?")),
		of(`-\`, ident("-?")),
		of("\\\n", sign(`\`), blank),
		of("a\\\nb", ident("a"), sign(`\`), blank, ident("b")),
		of("\\\r\n", sign(`\`), blank),
		of("\\\f", sign(`\`), blank),
		of("-\\\n", sign("-"), sign(`\`), blank),
		of(`\41`, ident("A")),
		of(`\41 \42`, ident("AB")),
		of(`\41  b`, ident("A"), blank, ident("b")),
		of("\\41\tb", ident("Ab")),
		of("\\41\nb", ident("Ab")),
		of("\\41\r\nb", ident("Ab")),
		of("\\41\r\rb", ident("A"), blank, ident("b")),
		of(`\4g`, ident("\x04g")),
		of(`\00004A`, ident("J")),
		of(`\00004a0`, ident("J0")),
		of(`\00004A a`, ident("Ja")),
		of(`\0`, ident("?")),
		of(`\000000 a`, ident("?a")),
		of(`\1`, ident("\x01")),
		of(`\ff`, ident("\xff")),
		of(`\FF`, ident("\xff")),
		of(`\100`, ident("?")),
		of(`\ffffff`, ident("?")),
		of(`\{\ \"\\`, ident(`{ "\`)),
		of("\\\x00", ident("?")),
		of("\\\x80", ident("\x80")),
		of(`\g\z`, ident("gz")),
	)
}

func TestP3Names(t *testing.T) {
	checkTokens(t,
		of("a-Z_09", ident("a-Z_09")),
		of("_", ident("_")),
		of("-", sign("-")),
		of("--", ident("--")),
		of("---", ident("---")),
		of("-a", ident("-a")),
		of("-_", ident("-_")),
		of("-\x80", ident("-\x80")),
		of("--1", ident("--1")),
		of("a-->", ident("a--"), sign(">")),
		of("---->", ident("----"), sign(">")),
		of("é", ident("é")),
		of("\xff\x80", ident("\xff\x80")),
		of("a\x7fb", ident("a"), sign("\x7f"), ident("b")),
		of("a\x00", ident("a"), sign("?")),
		of("a.b", ident("a"), sign("."), ident("b")),
		of("f(", word(api.Function, "f")),
		of("f (", ident("f"), blank, sign("(")),
		of("--f()", word(api.Function, "--f"), sign(")")),
		of(`f\(`, ident("f(")),
		of(`\(a(`, word(api.Function, "(a")),
	)
}

func TestP3HashesAndAts(t *testing.T) {
	checkTokens(t,
		of("#", sign("#")),
		of("# a", sign("#"), blank, ident("a")),
		of("#a", word(api.Hash, "a")),
		of("#1-", word(api.Hash, "1-")),
		of("#--", word(api.Hash, "--")),
		of("#-->", word(api.Hash, "--"), sign(">")),
		of(`#\31`, word(api.Hash, "1")),
		of(`#\`, word(api.Hash, "?")),
		of("#\\\n", sign("#"), sign(`\`), blank),
		of("##a", sign("#"), word(api.Hash, "a")),
		of("#a(", word(api.Hash, "a"), sign("(")),
		of("#\x80", word(api.Hash, "\x80")),
		of("#+", sign("#"), sign("+")),
		of("@", sign("@")),
		of("@media", word(api.At, "media")),
		of("@-a", word(api.At, "-a")),
		of("@-1", sign("@"), number("-1")),
		of("@1", sign("@"), number("1")),
		of("@-", sign("@"), sign("-")),
		of("@-->", word(api.At, "--"), sign(">")),
		of(`@\`, word(api.At, "?")),
		of("@\\\n", sign("@"), sign(`\`), blank),
		of("@a(", word(api.At, "a"), sign("(")),
		of("@ a", sign("@"), blank, ident("a")),
	)
}

func TestP3Numbers(t *testing.T) {
	checkTokens(t,
		of("0", number("0")),
		of("+0012", number("+0012")),
		of("-.5", number("-.5")),
		of(".", sign(".")),
		of("+.", sign("+"), sign(".")),
		of("+.a", sign("+"), sign("."), ident("a")),
		of("1.", number("1"), sign(".")),
		of("1.a", number("1"), sign("."), ident("a")),
		of("1.2.3", number("1.2"), number(".3")),
		of(".1.2", number(".1"), number(".2")),
		of("..1", sign("."), number(".1")),
		of("1-1", number("1"), number("-1")),
		of("1+.1", number("1"), number("+.1")),
		of("++1", sign("+"), number("+1")),
		of("+a", sign("+"), ident("a")),
		of("- 1", sign("-"), blank, number("1")),
		of("1e1", number("1e1")),
		of("1E+1", number("1E+1")),
		of("1.5e-10", number("1.5e-10")),
		of(".5e5", number(".5e5")),
		of("1e1.5", number("1e1"), number(".5")),
		of("1e1e1", measure("1e1", "e1")),
		of("1e", measure("1", "e")),
		of("1e-", measure("1", "e-")),
		of("1e-a", measure("1", "e-a")),
		of("1e+", measure("1", "e"), sign("+")),
		of("1e+a", measure("1", "e"), sign("+"), ident("a")),
		of("1e.1", measure("1", "e"), number(".1")),
		of("1.e1", number("1"), sign("."), ident("e1")),
	)
}

func TestP3PercentsAndDimensions(t *testing.T) {
	checkTokens(t,
		of("50%", word(api.Percent, "50")),
		of("-.5e3%", word(api.Percent, "-.5e3")),
		of("5%%", word(api.Percent, "5"), sign("%")),
		of("5%a", word(api.Percent, "5"), ident("a")),
		of("5 %", number("5"), blank, sign("%")),
		of(`5\%`, measure("5", "%")),
		of("5PX", measure("5", "PX")),
		of("5-a", measure("5", "-a")),
		of("5--", measure("5", "--")),
		of("5-", number("5"), sign("-")),
		of("5-->", measure("5", "--"), sign(">")),
		of("5_", measure("5", "_")),
		of("5\x80", measure("5", "\x80")),
		of(`5\65 1`, measure("5", "e1")),
		of(`5\`, measure("5", "?")),
		of("5\\\n", number("5"), sign(`\`), blank),
		of(`5-\41`, measure("5", "-A")),
		of("5a(", measure("5", "a"), sign("(")),
		of("5px1", measure("5", "px1")),
		of("5px%", measure("5", "px"), sign("%")),
		of("5url(a)", measure("5", "url"), sign("("), ident("a"), sign(")")),
	)
}

func TestP3OpenAndClose(t *testing.T) {
	checkTokens(t,
		of("<!---->", open, closing),
		of("<!--->", open, sign("-"), sign(">")),
		of("<!--a-->", open, ident("a--"), sign(">")),
		of("<!--/**/-->", open, closing),
		of("<!-", sign("<"), sign("!"), sign("-")),
		of("<! --", sign("<"), sign("!"), blank, ident("--")),
		of("--->", ident("---"), sign(">")),
		of("->", sign("-"), sign(">")),
		of("-->-->", closing, closing),
	)
}

func TestP3Texts(t *testing.T) {
	checkTokens(t,
		of(`""''`, text(""), text("")),
		of(`"a'b"`, text("a'b")),
		of(`'a"b'`, text(`a"b`)),
		of(`"`, text("")),
		of(`"a`, text("a")),
		of(`"a\`, text("a")),
		of(`"\"`, text(`"`)),
		of(`'\'\"'`, text(`'"`)),
		of(`"\41 b\z"`, text("Abz")),
		of("\"\\41\r\nb\"", text("Ab")),
		of(`"\0\100 "`, text("??")),
		of(`"\a"`, text("\n")),
		of(`"\41`, text("A")),
		of("\"a\\\nb\"", text("ab")),
		of("\"a\\\r\nb\"", text("ab")),
		of("\"a\\\fb\"", text("ab")),
		of("\"\\\n", text("")),
		of("\"a\nb\"", badText, blank, ident("b"), text("")),
		of("\"a\\\n\nb", badText, blank, ident("b")),
		of("'\r\n'", badText, blank, text("")),
		of("'\f", badText, blank),
		of("\"\t\x01\x7f\xff\x00\"", text("\t\x01\x7f\xff?")),
		of(`"/*"*/`, text("/*"), sign("*"), sign("/")),
		of(`"<!--url(a)"`, text("<!--url(a)")),
	)
}

func TestP3Links(t *testing.T) {
	checkTokens(t,
		of("url()", link("")),
		of("url(", link("")),
		of("url( \n\t)", link("")),
		of("url( ", link("")),
		of("url(a", link("a")),
		of("url(a ", link("a")),
		of("url(\r\n a\f)b", link("a"), ident("b")),
		of("uRL(a)", link("a")),
		of(`\55 rl(a)`, link("a")),
		of("url(a:/b?c#d;e{f}%,@!<>*&[]|~^$+=`)", link("a:/b?c#d;e{f}%,@!<>*&[]|~^$+=`")),
		of("url(//*a*/)", link("//*a*/")),
		of("url(\x80\xff\x00)", link("\x80\xff?")),
		of(`url(\29)`, link(")")),
		of(`url(a\ b)`, link("a b")),
		of(`url(\"\'\(\)\\)`, link(`"'()\`)),
		of(`url(\1\7f )`, link("\x01\x7f")),
		of(`url(a\41 b)`, link("aAb")),
		of(`url(a\41  )`, link("aA")),
		of(`url(a\`, link("a?")),
		of(`url(\`, link("?")),
		of("xurl(a)", word(api.Function, "xurl"), ident("a"), sign(")")),
		of("url-(a)", word(api.Function, "url-"), ident("a"), sign(")")),
		of("#url(a)", word(api.Hash, "url"), sign("("), ident("a"), sign(")")),
	)
}

func TestP3QuotedLinksAreFunctions(t *testing.T) {
	url := word(api.Function, "url")
	checkTokens(t,
		of(`url("a")`, url, text("a"), sign(")")),
		of(`URL('a')`, word(api.Function, "URL"), text("a"), sign(")")),
		of("url( \n'a' b)", url, blank, text("a"), blank, ident("b"), sign(")")),
		of(`url("`, url, text("")),
		of("url('\n)", url, badText, blank, sign(")")),
		of(`url(\"a")b`, badLink, ident("b")),
		of(`url(/**/"a")b`, badLink, ident("b")),
	)
}

func TestP3BadLinks(t *testing.T) {
	checkTokens(t,
		of(`url(a"b)c`, badLink, ident("c")),
		of("url(a'b)c", badLink, ident("c")),
		of("url(()c", badLink, ident("c")),
		of("url(a(b)c)", badLink, ident("c"), sign(")")),
		of("url(\x01)c", badLink, ident("c")),
		of("url(\x1f)c", badLink, ident("c")),
		of("url(\v)c", badLink, ident("c")),
		of("url(\x7f)c", badLink, ident("c")),
		of("url(a b)c", badLink, ident("c")),
		of("url(a\nb)c", badLink, ident("c")),
		of("url(a \x01)c", badLink, ident("c")),
		of(`url(a \)c`, badLink),
		of(`url(a 'b)c')`, badLink, ident("c"), text(")")),
		of("url(\\\n)c", badLink, ident("c")),
		of("url(a\\\n)c", badLink, ident("c")),
		of(`url(a b\)c)d`, badLink, ident("d")),
		of(`url(a b\\)d`, badLink, ident("d")),
		of(`url(a b\29)d`, badLink, ident("d")),
		of("url(a b\\\n)d", badLink, ident("d")),
		of(`url(a b\`, badLink),
		of(`url(a b`, badLink),
		of("url(a /*)*/", badLink, sign("*"), sign("/")),
	)
}

func TestP3Long(t *testing.T) {
	full := strings.Repeat("{", api.MaxSheet)
	if tokens, errno := Tokens(full); errno != api.OK || len(tokens) != api.MaxSheet {
		t.Errorf("P3: %d tokens, %d of %d bytes", len(tokens), errno, len(full))
	}
	longs := []string{
		full + "{",
		strings.Repeat("a", 100*api.MaxSheet),
		// Cleaned it would be short enough, but it is the sheet's own bytes that count.
		strings.Repeat("\r\n", api.MaxSheet/2) + " ",
	}
	for _, sheet := range longs {
		if tokens, errno := Tokens(sheet); errno != api.ErrLong || tokens != nil {
			t.Errorf("P3: %v, %d of %d bytes", tokens, errno, len(sheet))
		}
	}
	checkTokens(t, of(strings.Repeat("\r\n", api.MaxSheet/2), blank))
}
