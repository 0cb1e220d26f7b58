package rinse

import (
	"strings"
	"testing"

	"rinse/api"
)

// writtenCase: a value, and how it is written.
type writtenCase struct{ value, want string }

func checkWritten(t *testing.T, cases ...writtenCase) {
	t.Helper()
	for _, c := range cases {
		checkComputed(t, 2, "top", c.want, "p{top:"+c.value)
	}
}

func TestP5WrittenNames(t *testing.T) {
	checkWritten(t, []writtenCase{
		{"azAZ_09-", "azAZ_09-"},
		{"\\41 ", "A"},
		{"\\31 a", "\\31 a"},
		{"\\31 23", "\\31 23"},
		{"a1", "a1"},
		{"-a", "-a"},
		{"-\\31 2", "-\\31 2"},
		{"-a1", "-a1"},
		{"--", "--"},
		{"--1", "--1"},
		{"\\-", "\\2d "},
		{"\\-a", "-a"},
		{"a\\-", "a-"},
		{"a\\ b\\.", "a\\20 b\\2e "},
		{"\\1 \\7f \\ff ", "\\01 \\7f \\ff "},
		{"a\\", "a\\3f "},
		{"\xc3\x89", "\\c3 \\89 "},
		{"@\\31 a", "@\\31 a"},
		{"@-a", "@-a"},
		{"#1", "#\\31 "},
		{"#-1", "#-\\31 "},
		{"#a1", "#a1"},
		{"#-", "#\\2d "},
		{"#--", "#--"},
		{"\\31 a(b)", "\\31 a(b)"},
		{"\\-(b)", "\\2d (b)"},
	}...)
}

func TestP5WrittenNumbers(t *testing.T) {
	checkWritten(t, []writtenCase{
		{"1", "1"}, {"+1.50", "+1.50"}, {"-.5e-3", "-.5e-3"}, {"007", "007"},
		{"1%", "1%"}, {"-.5%", "-.5%"}, {"1e3%", "1e3%"},
		{"1px", "1px"}, {"1PX", "1PX"}, {"1e3px", "1e3px"}, {"1_", "1_"}, {"1\\70 x", "1px"}, {"1\\31 ", "1\\31 "}, {"1a1", "1a1"},
		{"1em", "1\\65 m"}, {"1Em", "1\\45 m"}, {"1e", "1\\65 "}, {"1E", "1\\45 "}, {"1\\65 1", "1\\65 1"}, {"1e3e", "1e3\\65 "}, {"1ae", "1ae"}, {"1-e", "1-e"}, {"1e-", "1\\65 -"},
		{"1-a", "1-a"}, {"1--", "1--"}, {"1\\-", "1\\2d "}, {"1-\\31 ", "1-\\31 "},
		{"1é", "1\\c3 \\a9 "},
	}...)
}

func TestP5WrittenTextsAndLinks(t *testing.T) {
	checkWritten(t, []writtenCase{
		{"''", `""`}, {`"a"`, `"a"`}, {"'a", `"a"`},
		{`'"'`, `"\22 "`}, {`"'"`, `"'"`}, {`'\\'`, `"\5c "`}, {`'<>'`, `"\3c \3e "`}, {`' ~'`, `" ~"`},
		{"'a\\\nb'", `"ab"`}, {`'\a '`, `"\0a "`}, {"'\t\x01\x1f\x7f\x80\xff'", `"\09 \01 \1f \7f \80 \ff "`}, {"'é'", `"\c3 \a9 "`},
		{"'azAZ09-_./:;{}()[]!@#$%^&*+=|,?`'", "\"azAZ09-_./:;{}()[]!@#$%^&*+=|,?`\""},
		{"url()", "url()"}, {"url( a )", "url(a)"}, {"URL(a", "url(a)"},
		{"url(azAZ09./:-)", "url(azAZ09./:-)"}, {"url(_)", `url(\5f )`}, {"url(a?b#c)", `url(a\3f b\23 c)`}, {`url(\29 \"\ )`, `url(\29 \22 \20 )`}, {"url(é~)", `url(\c3 \a9 \7e )`},
		{`url("a")`, `url("a")`}, {`url( 'a' )`, `url( "a" )`}, {`URL("a")`, `URL("a")`},
	}...)
}

func TestP5WrittenBlanksAndBlocks(t *testing.T) {
	checkWritten(t, []writtenCase{
		{"a b", "a b"}, {"a \n\t b", "a b"}, {"a /**/ b", "a b"}, {"a/**/ /**/ /**/b", "a b"}, {" a ", "a"},
		{"( a )", "( a )"}, {"(  /**/ a /**/ )", "( a )"}, {"( )", "( )"}, {"()", "()"},
		{"[a]", "[a]"}, {"{a}", "{a}"}, {"f(a)", "f(a)"}, {"f(", "f()"}, {"([{f(a", "([{f(a)}])"}, {"(a]", "(a])"}, {"[a)", "[a)]"}, {"{a)", "{a)}"},
		{"{a;b:c}", "{a;b:c}"}, {"f( a , b )", "f( a , b )"},
		{"<!--", "<!--"}, {"-->", "-->"},
		{"a)]", "a)]"},
	}...)
}

// Each kind stands in front of and behind each other one: `/**/` is between them, unless one of them keeps them apart.
func TestP5WrittenApart(t *testing.T) {
	apart := []string{"a", "#a", "@a", "1", "1%", "1px", `"a"`, "url(a)", "<!--", "-->", "*", "/", "!", "+", "-", ".", "<", ">", "#", "@", "%", "=", "|", "?", "~", "&", "^", "$"}
	opened := []string{"f(a)", "(a)"}
	closed := []string{"[a]", "{a}", ",", ":", ")", "]"}
	for _, first := range apart {
		for _, second := range append(append([]string{}, apart...), opened...) {
			checkWritten(t, writtenCase{first + "/**/" + second, first + "/**/" + second})
		}
		for _, second := range closed {
			checkWritten(t, writtenCase{first + "/**/" + second, first + second})
		}
	}
	all := append(append(append([]string{}, apart...), opened...), closed...)
	for _, first := range append(append([]string{}, opened...), closed...) {
		for _, second := range all {
			checkWritten(t, writtenCase{first + "/**/" + second, first + second})
		}
	}
	for _, one := range all {
		checkWritten(t, writtenCase{"f(" + one + ")", "f(" + one + ")"}, writtenCase{"a " + one + " b", "a " + one + " b"})
	}
	checkWritten(t, writtenCase{"(a;b)", "(a;b)"}, writtenCase{"(1;(b))", "(1;(b))"}, writtenCase{"(];}", "(];})"}, writtenCase{"(}a}", "(}a})"}, writtenCase{"(a}(b))", "(a}(b))"})
}

// What is written is read again as the same tokens.
func TestP5WrittenReadAgain(t *testing.T) {
	for _, value := range []string{
		"a b", "\\31 a/**/b", "1/**/e3", "1em 1E 1e1e", "#1#-#a", "-/**/-a", "-/**/->", "</**/!--", "/ * */", "//**/*", "'\\a '\"'\"", "url(a\\)b)url()", "@a/**/@b/**/c(d)e", "a/**/(b)", "+/**/1", "1/**/%", "./**/5", "#/**/a", "\\-/**/1", "é\x80\\1 ",
	} {
		written, errno := Computed(family(), []string{"p{top:" + value}, 2, "top")
		first, _ := Tokens(value)
		again, _ := Tokens(written)
		if errno != api.OK || told(first) != told(again) {
			t.Errorf("P5: %q is written %q: %q, then %q", value, written, told(first), told(again))
		}
	}
}

// told tells tokens in a text.
func told(tokens []api.Token) string {
	var all []string
	for _, token := range tokens {
		all = append(all, string(rune('a'+token.Kind))+token.Word+"|"+token.Unit)
	}
	return strings.Join(all, "\n")
}
