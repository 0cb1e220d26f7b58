package rinse

import (
	"strings"
	"testing"

	"rinse/api"
)

// family is the page of these tests:
//
//	0 html
//	  1 div .box
//	    2 p #a .x
//	    3 p .x .y [k="v w-2"] [k="z"] [e=""]
//	    4 b
//	      5 p
//	  6 div #1 [k="w"]
//	  7 ul
//	    8 b .x
func family() []api.Elem {
	return []api.Elem{
		{Parent: -1, Tag: "html"},
		{Parent: 0, Tag: "div", Classes: []string{"box"}},
		{Parent: 1, Tag: "p", Id: "a", Classes: []string{"x"}},
		{Parent: 1, Tag: "p", Classes: []string{"x", "y"}, Attrs: []api.Attr{{Name: "k", Value: "v w-2"}, {Name: "k", Value: "z"}, {Name: "e"}}},
		{Parent: 1, Tag: "b"},
		{Parent: 4, Tag: "p"},
		{Parent: 0, Tag: "div", Id: "1", Attrs: []api.Attr{{Name: "k", Value: "w"}}},
		{Parent: 0, Tag: "ul"},
		{Parent: 7, Tag: "b", Classes: []string{"x"}},
	}
}

// matchCase: a selector, and the digits of the elements that it matches.
type matchCase struct{ selector, want string }

func checkMatches(t *testing.T, page []api.Elem, cases ...matchCase) {
	t.Helper()
	for _, c := range cases {
		got := ""
		for elem := range page {
			matches, errno := Matches(c.selector, page, elem)
			if errno != api.OK {
				t.Errorf("P4: Matches(%q, .., %d): %d", c.selector, elem, errno)
			}
			if matches {
				got += string(rune('0' + elem))
			}
		}
		if got != c.want {
			t.Errorf("P4: %q matches %q, want %q", c.selector, got, c.want)
		}
	}
}

func TestP4Example(t *testing.T) {
	page := []api.Elem{
		{Parent: -1, Tag: "html"},
		{Parent: 0, Tag: "div", Classes: []string{"box"}},
		{Parent: 1, Tag: "p", Id: "a"},
		{Parent: 1, Tag: "p"},
	}
	checkMatches(t, page,
		matchCase{".box > p:nth-child(2)", "3"},
		matchCase{"p:not(#a, div)", "3"},
		matchCase{"P + p", "3"},
	)
	checkNoSelectors(t, "p,")
}

func TestP4Names(t *testing.T) {
	checkMatches(t, family(),
		matchCase{"p", "235"}, matchCase{"P", "235"}, matchCase{"DiV", "16"}, matchCase{"pp", ""}, matchCase{"\\70", "235"}, matchCase{"\\50 ", "235"},
		matchCase{"*", "012345678"},
		matchCase{"#a", "2"}, matchCase{"#A", ""}, matchCase{"#1", "6"}, matchCase{"#\\31 ", "6"}, matchCase{"#a#a", "2"}, matchCase{"#a#b", ""},
		matchCase{".x", "238"}, matchCase{".X", ""}, matchCase{".y", "3"}, matchCase{".y.x", "3"}, matchCase{".x.x", "238"}, matchCase{".box", "1"}, matchCase{".bo", ""},
		matchCase{"p.x", "23"}, matchCase{"*.x", "238"}, matchCase{"p.x#a", "2"}, matchCase{"p#a.x", "2"}, matchCase{"b#a", ""},
		matchCase{"p\x80", ""}, matchCase{"\\2a ", ""}, matchCase{"\\:root", ""},
	)
}

func TestP4Attributes(t *testing.T) {
	checkMatches(t, family(),
		matchCase{"[k]", "36"}, matchCase{"[ k ]", "36"}, matchCase{"[K]", ""}, matchCase{"[e]", "3"}, matchCase{"p[k]", "3"},
		matchCase{"[k=w]", "6"}, matchCase{"[k=W]", ""}, matchCase{"[k='v w-2']", "3"}, matchCase{`[k="w"]`, "6"}, matchCase{"[k=z]", ""}, matchCase{"[k=v]", ""}, matchCase{"[e='']", "3"}, matchCase{"[k='']", ""},
		matchCase{"[k~=v]", "3"}, matchCase{"[k~=w]", "6"}, matchCase{"[k~='w-2']", "3"}, matchCase{"[k~='v w-2']", ""}, matchCase{"[k~='']", ""}, matchCase{"[e~='']", ""}, matchCase{"[k~=z]", ""}, matchCase{"[k~=' ']", ""},
		matchCase{"[k^=v]", "3"}, matchCase{"[k^='v ']", "3"}, matchCase{"[k^=w]", "6"}, matchCase{"[k^='']", ""}, matchCase{"[e^='']", ""}, matchCase{"[k^='v w-2 ']", ""},
		matchCase{"[k$='2']", "3"}, matchCase{"[k$=w]", "6"}, matchCase{"[k$=v]", ""}, matchCase{"[k$='']", ""}, matchCase{"[e$='']", ""},
		matchCase{"[k*=w]", "36"}, matchCase{"[k*=' ']", "3"}, matchCase{"[k*='-']", "3"}, matchCase{"[k*='']", ""}, matchCase{"[e*='']", ""}, matchCase{"[k*=z]", ""},
		matchCase{"[ k ~= w ]", "6"}, matchCase{"[\nk\t=\n'w'\n]", "6"}, matchCase{"[k/**/ /**/ = /**/ w /**/ ]", "6"},
		matchCase{"[k][e]", "3"}, matchCase{"[k~=v][k$='-2']", "3"}, matchCase{"[k=\\77 ]", "6"}, matchCase{"[k='\\77']", "6"}, matchCase{"[\\6b]", "36"},
	)
}

func TestP4States(t *testing.T) {
	checkMatches(t, family(),
		matchCase{":root", "0"}, matchCase{"html:ROOT", "0"}, matchCase{"p:root", ""}, matchCase{":\\72oot", "0"},
		matchCase{":first-child", "01258"}, matchCase{":last-child", "04578"}, matchCase{":First-Child:LAST-child", "058"},
		matchCase{":empty", "23568"}, matchCase{"div:Empty", "6"},
		matchCase{":nth-child(1)", "01258"}, matchCase{":nth-child(2)", "36"}, matchCase{":nth-child(3)", "47"}, matchCase{":nth-child(4)", ""},
		matchCase{":nth-child(0)", ""}, matchCase{":nth-child(999)", ""}, matchCase{":nth-child(\t01\n)", "01258"}, matchCase{":NTH-child(" + strings.Repeat("0", 80) + "2)", "36"},
		matchCase{":nth-child(odd)", "0124578"}, matchCase{":nth-child(even)", "36"}, matchCase{":nth-child( ODD )", "0124578"}, matchCase{":nth-child(e\\56 en)", "36"},
	)
}

func TestP4SmallestPages(t *testing.T) {
	for _, s := range []string{":root", ":empty", ":first-child", ":last-child", ":nth-child(1)", ":nth-child(odd)"} {
		checkMatches(t, wide(1), matchCase{s, "0"})
	}
	for _, s := range []string{"* *", "* > *", "* + *", "* ~ *", ":nth-child(even)"} {
		checkMatches(t, wide(1), matchCase{s, ""})
	}
	checkMatches(t, wide(2),
		matchCase{":root", "0"}, matchCase{":empty", "1"}, matchCase{":first-child", "01"}, matchCase{":last-child", "01"},
		matchCase{"* *", "1"}, matchCase{"* > *", "1"}, matchCase{"* + *", ""}, matchCase{"* ~ *", ""},
	)
}

func TestP4NotAndIs(t *testing.T) {
	checkMatches(t, family(),
		matchCase{":not(p)", "014678"}, matchCase{":not(p, div)", "0478"}, matchCase{":NOT( P , div )", "0478"}, matchCase{"p:not(.x)", "5"}, matchCase{":not(*)", ""}, matchCase{"p:not(b p)", "23"},
		matchCase{":is(p, b)", "23458"}, matchCase{":is(p, b).x", "238"}, matchCase{":Is(#a)", "2"}, matchCase{":is(div > p)", "23"}, matchCase{":is(p):is(.y)", "3"},
		matchCase{":not(:not(.x))", "238"}, matchCase{":is(:not(p), #a):empty", "268"}, matchCase{"div :is(p + p, b)", "34"}, matchCase{":not(:is(p, :nth-child(2)))", "01478"},
	)
}

func TestP4Combinators(t *testing.T) {
	checkMatches(t, family(),
		matchCase{"div p", "235"}, matchCase{"div\n\tp", "235"}, matchCase{"div /**/ p", "235"}, matchCase{"html p", "235"}, matchCase{"p div", ""}, matchCase{"html html", ""}, matchCase{"div b p", "5"}, matchCase{"ul p", ""},
		matchCase{"div > p", "23"}, matchCase{"div>p", "23"}, matchCase{"div >p", "23"}, matchCase{"div> p", "23"}, matchCase{"html > p", ""}, matchCase{"html > div > b > p", "5"}, matchCase{"html > b > p", ""},
		matchCase{"p + p", "3"}, matchCase{"p+b", "4"}, matchCase{".box+div", "6"}, matchCase{".box + ul", ""}, matchCase{"#a + b", ""}, matchCase{"* + html", ""}, matchCase{"html + div", ""},
		matchCase{"p ~ b", "4"}, matchCase{"#a~*", "34"}, matchCase{".box ~ ul", "7"}, matchCase{"ul ~ div", ""}, matchCase{"b ~ b", ""}, matchCase{"p ~ p", "3"}, matchCase{"#a ~ #a", ""},
		matchCase{"div p ~ b > p", "5"}, matchCase{".box ~ ul .x", "8"}, matchCase{"* > * > *", "23458"}, matchCase{"p--> b", ""}, matchCase{"p/**/.x", "23"}, matchCase{"#a + p ~ b p", "5"},
		// The nearest one is not the one: an ancestor further up, an element further ahead.
		matchCase{".box > * p", "5"}, matchCase{"html > div p", "235"}, matchCase{"div:first-child ~ *", "67"}, matchCase{".x:first-child ~ b", "4"},
	)
}

func TestP4Lists(t *testing.T) {
	checkMatches(t, family(),
		matchCase{"p,b", "23458"}, matchCase{"\n p , b\t", "23458"}, matchCase{"b,#a", "248"}, matchCase{"p,p", "235"}, matchCase{"q,p", "235"}, matchCase{"/**/p/**/,/**/b/**/", "23458"},
		matchCase{strings.Repeat("q,", api.MaxSelectors-1) + "p", "235"}, matchCase{":is(" + strings.Repeat("q,", api.MaxSelectors-1) + "p)", "235"},
	)
	nine := strings.Repeat("q,", api.MaxSelectors) + "p"
	checkNoSelectors(t, nine, ":is("+nine+")", ":not("+nine+")")
}

// A block without its closing sign goes up to the end.
func TestP4OpenBlocks(t *testing.T) {
	checkMatches(t, family(),
		matchCase{":not(p", "014678"}, matchCase{"[k", "36"}, matchCase{"[k=w", "6"}, matchCase{"[k='w", "6"}, matchCase{":nth-child(2", "36"}, matchCase{":is(:not(:not(.x", "238"}, matchCase{":is(p[k", "3"}, matchCase{"p/*", "235"},
	)
}

func TestP4Depth(t *testing.T) {
	nest := func(open string, times int, inside, closing string) string {
		return strings.Repeat(open, times) + inside + strings.Repeat(closing, times)
	}
	const most = api.MaxDepth
	checkMatches(t, family(),
		matchCase{nest(":not(", most, "p", ")"), "235"},
		matchCase{nest(":is(", most, "p", ")"), "235"},
		matchCase{nest(":is(", most-1, "[k]", ")"), "36"},
		matchCase{nest(":is(", most-1, ":nth-child(2)", ")"), "36"},
		matchCase{nest(":is(", most, "p", ")") + nest(":is(", most, ".x", ")"), "23"},
		matchCase{nest(":is(", most, "p", ""), "235"},
	)
	checkNoSelectors(t,
		nest(":not(", most+1, "p", ")"),
		nest(":is(", most+1, "p", ")"),
		nest(":is(", most, "[k]", ")"),
		nest(":is(", most, ":nth-child(2)", ")"),
		nest(":is(", most+1, "p", ""),
		nest("p:is(", 16, "p", ")"),
	)
}

// checkNoSelectors looks whether these are refused.
func checkNoSelectors(t *testing.T, selectors ...string) {
	t.Helper()
	for _, s := range selectors {
		for elem := range family() {
			if matches, errno := Matches(s, family(), elem); matches || errno != api.ErrSelector {
				t.Errorf("P4: Matches(%q, .., %d) = %v, %d", s, elem, matches, errno)
			}
		}
	}
}

func TestP4NoSelectors(t *testing.T) {
	checkNoSelectors(t,
		"", " ", "/**/", ",", "p,", ",p", "p,,b", "p, ,b", "p b,", // lists
		"> p", "p >", "p > > b", "p >+ b", "p ~ ~ b", "+", "p > , b", "p, > b", ">", "p | b", "p || b", "p & b", // combinators
		"p/**/b", "*p", "p*", "**", "* /**/*p", "#a p/**/p", ".xp*", ".x*", "#a*", // two tags
		".", "p.", ".1", ". x", "p . x", "..x", ".'x'", ".#a", ".*", ".x(", // classes
		"#", "# a", "##a", "p #", // ids
		":", "p:", ": root", "::root", ":hover", ":root()", ":empty()", ":first-child(1)", ":'root'", ":#a", ":1", ":*", ":[k]", ":(root)", ":rooted", ":roo", // states
		":not", ":is", ":nth-child", ":not()", ":not( )", ":is()", ":not(p,)", ":is(> p)", ":not(p{})", ":not (p)", ":not(1)", ":has(p)", ":nth-last-child(1)", ":not(:hover)", ":is(p))", ":not(", ":is(p,",
		":nth-child()", ":nth-child( )", ":nth-child(-1)", ":nth-child(+1)", ":nth-child(-0)", ":nth-child(1.0)", ":nth-child(.5)", ":nth-child(1e0)", ":nth-child(1000)", ":nth-child(18446744073709551617)", ":nth-child(2n)", ":nth-child(1%)", ":nth-child(n)", ":nth-child(1 2)", ":nth-child(1/**/2)", ":nth-child('odd')", ":nth-child(odd,even)", ":nth-child(odd odd)", ":nth-child(#1)", ":nth-child((1))", ":nth-child(oddly)", // places
	)
}

func TestP4NoAttributes(t *testing.T) {
	checkNoSelectors(t,
		"[", "[]", "[ ]", "[1]", "['k']", "[#k]", "[.k]", "[*]", "[k k]", "[k,k]", "[=v]", "[k=]", "[k= ]", "[k==v]", "[k=1]", "[k=1px]", "[k=#v]", "[k=v w]", "[k=v 'w']", "[k=v,w]", "[k=[v]]", "[k=(v)]", "[k=v()]", "[k=url(v)]",
		"[k =~ v]", "[k~ =v]", "[k~v]", "[k~]", "[k~~=v]", "[k^~=v]", "[k|=v]", "[k!=v]", "[k>=v]", "[k='v\n']", "[[k]]", "[k)]", "[k=v}]", "(k)", "{k}", "k]",
	)
}

func TestP4NoTokensOfSelectors(t *testing.T) {
	checkNoSelectors(t, "p;", "p{", "p{}", "{}", "p!", "1", "1px", "5%", "'p'", `p"x"`, "p 'x'", "p@a", "@a", "<!--p", "-->", "url(x)", "url(x y)", "p url(x)", "p(", "p(b)", "p)", ")", "}", "]", "p}", "'\n", "p\\\n", "\v", "p\x01", "&", "p&b", "%", "^", "\\\n")
}
