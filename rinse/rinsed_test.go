package rinse

import (
	"strings"
	"testing"

	"rinse/api"
)

// strict lets two properties be, a few functions and at-rules, and neither texts nor custom properties.
func strict() api.Policy {
	return api.Policy{
		Root:       "r",
		Properties: []string{"color", "width"},
		Functions:  []string{"calc", "var"},
		AtRules:    []string{"media", "layer"},
	}
}

// lenient lets all be that a policy can let be, of odd names too, and has no root.
func lenient() api.Policy {
	return api.Policy{
		Properties: []string{"color", "width", "a", "a--"},
		Functions:  []string{"calc", "var", "url", "-", "--", "-a", "not"},
		AtRules:    []string{"media", "layer", "-", "--", "-a"},
		Custom:     true,
		Texts:      true,
	}
}

// rinsedCase: a sheet, and what comes of it.
type rinsedCase struct{ sheet, want string }

func checkRinsed(t *testing.T, p api.Policy, cases ...rinsedCase) {
	t.Helper()
	for _, c := range cases {
		if got, errno := Rinse(c.sheet, p); got != c.want || errno != api.OK {
			t.Errorf("P6: Rinse(%q) = %q, %d, want %q", c.sheet, got, errno, c.want)
		}
	}
}

func TestP6Example(t *testing.T) {
	p := api.Policy{Root: "r", Properties: []string{"color", "width"}, Functions: []string{"calc"}}
	checkRinsed(t, p, []rinsedCase{
		{`@import "x"; P , a>b{COLOR:red;top:0;width:calc(1px + 2px)}`, ".r p,.r a > b{color:red;width:calc(1px + 2px)}"},
		{"p{color:url(x)} p{color:red}", ".r p{color:red}"},
		{"p{color:red", ".r p{color:red}"},
	}...)
}

func TestP6StyleRules(t *testing.T) {
	checkRinsed(t, strict(), []rinsedCase{
		{"", ""},
		{" \n", ""},
		{"p", ""},
		{"p{", ""},
		{"p{}", ""},
		{"p{top:0}", ""},
		{"{color:red}", ""},
		{"p{color:red}b", ".r p{color:red}"},
		{"p{color:red} b{color:blue}", ".r p{color:red}.r b{color:blue}"},
		{"b{color:blue} p{color:red}", ".r b{color:blue}.r p{color:red}"},
		{"p{top:0} b{color:blue} i{}", ".r b{color:blue}"},
		{"p,{color:red} b{color:blue}", ".r b{color:blue}"},
		{"p,b:hover{color:red} b{color:blue}", ".r b{color:blue}"},
		{"; p{color:red} b{color:blue}", ".r b{color:blue}"},
		{"p}{color:red} b{color:blue}", ".r b{color:blue}"},
		{"p</style>{color:red} b{color:blue}", ".r b{color:blue}"},
		{"<!-- p{color:red} --> b{color:blue} -->", ".r p{color:red}.r b{color:blue}"},
		{"p{color:red}}b{color:blue}i{color:x}", ".r p{color:red}.r i{color:x}"},
		{"p{color:red}p{color:red}", ".r p{color:red}.r p{color:red}"},
		{"a,b,c,d,e,f,g,h{color:x}", ".r a,.r b,.r c,.r d,.r e,.r f,.r g,.r h{color:x}"},
		{"a,b,c,d,e,f,g,h,i{color:x}", ""},
	}...)
}

func TestP6Root(t *testing.T) {
	p := strict()
	for root, want := range map[string]string{
		"":             "p,b > i{color:red}@media{:root{color:red}}",
		"z":            ".z p,.z b > i{color:red}@media{.z :root{color:red}}",
		"abcdefghijkl": ".abcdefghijkl p,.abcdefghijkl b > i{color:red}@media{.abcdefghijkl :root{color:red}}",
	} {
		p.Root = root
		checkRinsed(t, p, rinsedCase{"p, b>i{color:red} @media{:root{color:red}}", want})
	}
}

func TestP6Declarations(t *testing.T) {
	checkRinsed(t, strict(), []rinsedCase{
		{"p{color:red;width:1px}", ".r p{color:red;width:1px}"},
		{"p{width:1px;color:red}", ".r p{width:1px;color:red}"},
		{"p{color:red;color:blue}", ".r p{color:red;color:blue}"},
		{"p{;; color : red ;; width:1px ; }", ".r p{color:red;width:1px}"},
		{"p{COLOR:RED}", ".r p{color:RED}"},
		{`p{c\6f lor:red}`, ".r p{color:red}"},
		{"p{color:}", ""},
		{"p{color: ;width:/**/}", ""},
		{"p{color:!important}", ""},
		{"p{color: ! important;width:1}", ".r p{width:1}"},
		{"p{color:red!important}", ".r p{color:red!important}"},
		{"p{color:red ! IMPORTANT ;width:1}", ".r p{color:red!important;width:1}"},
		{"p{color:red important}", ".r p{color:red important}"},
		{"p{color:red!important!important}", ""},
		{"p{color:red!x}", ""},
		{"p{color}", ""},
		{"p{color red;width:1}", ".r p{width:1}"},
		{"p{1:2;width:1}", ".r p{width:1}"},
		{"p{colo:red;colors:red;-color:red;top:0}", ""},
		{"p{@media x{color:red}width:1}", ".r p{width:1}"},
		{"p{@x color:red;width:1}", ".r p{width:1}"},
		{"p{b{color:red}width:1;color:blue}", ".r p{color:blue}"},
		{`p{\};color:red}`, ".r p{color:red}"},
	}...)
}

func TestP6Custom(t *testing.T) {
	p := strict()
	checkRinsed(t, p, rinsedCase{"p{--x:1;--:2;color:var(--x)}", ".r p{color:var(--x)}"}, rinsedCase{"p{--x:1}", ""})
	p.Custom, p.Properties = true, nil
	checkRinsed(t, p, []rinsedCase{
		{"p{--x:1;--X:2;color:var(--x)}", ".r p{--x:1;--X:2}"},
		{"p{--:1;---:2}", ".r p{--:1;---:2}"},
		{"p{-x:1;x--:2}", ""},
		{`p{\-\-x:1}`, ".r p{--x:1}"},
		{`p{--\31 \}\<\/:1}`, `.r p{--1\7d \3c \2f :1}`},
		{"p{--é:1}", `.r p{--\c3 \a9 :1}`},
		{"p{--x:}", ""},
		{"p{--x:{a:b}!important}", ".r p{--x:{a:b}!important}"},
		{"p{--x:{a;b}}", ""},
		{"p{--x:'a'}", ""},
		{"p{--x:f(1)}", ""},
	}...)
}

func TestP6HarmlessTokens(t *testing.T) {
	for value, want := range map[string]string{
		"a":         "a",
		`\}`:        `\7d `,
		"a  b":      "a b",
		"a/*;*/b":   "a/**/b",
		"#fff":      "#fff",
		"#1":        `#\31 `,
		"1":         "1",
		"-.5e+3":    "-.5e+3",
		"50%":       "50%",
		"1px":       "1px",
		"1em":       `1\65 m`,
		"1/2":       "1/**///**/2",
		"'a'":       "",
		"'a":        "",
		"'a\nb":     "",
		"url(a)":    "",
		"url()":     "",
		"url(a b)":  "",
		`url("a")`:  "",
		"@a":        "",
		"<!--":      "",
		"-->":       "",
		"a <!-- b":  "",
		"calc('a')": "",
		"(url(a))":  "",
		"[@a]":      "",
		"{<!--}":    "",
		"(-->)":     "",
	} {
		checkValue(t, strict(), value, want)
	}
}

// checkValue looks what comes of a declaration's value: nothing, if it is left out.
func checkValue(t *testing.T, p api.Policy, value, want string) {
	t.Helper()
	before, behind := "", ""
	if p.Root != "" {
		before = "." + p.Root + " "
	}
	if want != "" {
		want, behind = before+"p{color:"+want+"}", before+"b{color:x}"
	} else {
		behind = before + "b{color:x}"
	}
	checkRinsed(t, p, rinsedCase{"p{color:" + value + "\n}b{color:x}", want + behind})
}

// Of each byte that is a sign by itself: it may be, or the value is left out.
func TestP6HarmlessSigns(t *testing.T) {
	for c := 33; c < 127; c++ {
		s := string([]byte{byte(c)})
		if tokens, _ := Tokens(s); len(tokens) != 1 || tokens[0].Kind != api.Sign || strings.Contains("()[]{};", s) {
			continue
		}
		want := ""
		if strings.Contains("+-*/.,:%=", s) {
			want = s
		}
		checkValue(t, strict(), s, want)
		if want != "" {
			want = "a " + s + " b"
		}
		checkValue(t, strict(), "a "+s+" b", want)
		if want != "" {
			want = "([{calc( " + s + " )}])"
		}
		checkValue(t, strict(), "([{calc( "+s+" )}])", want)
	}
}

func TestP6HarmlessBlocks(t *testing.T) {
	p := strict()
	for value, want := range map[string]string{
		"(a)":             "(a)",
		"[a]":             "[a]",
		"{a}":             "{a}",
		"()[]{}":          "()[]{}",
		"{a:b}[c,d](e=f)": "{a:b}[c,d](e/**/=/**/f)",
		"{a;b}":           "",
		"(a;b)":           "",
		"a)":              "",
		"a]":              "",
		"(a])":            "",
		"[a)]":            "",
		"{a)}":            "",
	} {
		checkValue(t, p, value, want)
	}
	checkRinsed(t, p, []rinsedCase{
		{"p{color:(a", ".r p{color:(a)}"},
		{"p{color:[{calc(a", ".r p{color:[{calc(a)}]}"},
		{"p{color:(}", ""},
		{"p{color:calc(1}", ""},
		{"p{color:(a}b{color:x}", ""},
	}...)
}

func TestP6HarmlessFunctions(t *testing.T) {
	for value, want := range map[string]string{
		"calc(1)":       "calc(1)",
		"CALC(1)":       "CALC(1)",
		`c\61 lc(1)`:    "calc(1)",
		"calc(var(--))": "calc(var(--))",
		"calc()":        "calc()",
		"f(1)":          "",
		"calcs(1)":      "",
		"cal(1)":        "",
		"calc(f(1))":    "",
		"(f())":         "",
		"calc(1) f()":   "",
		"calc (1)":      "calc (1)",
		"f (1)":         "f (1)",
	} {
		checkValue(t, strict(), value, want)
	}
	p := strict()
	p.Functions = nil
	checkValue(t, p, "calc(1)", "")
}

func TestP6Texts(t *testing.T) {
	p := lenient()
	for value, want := range map[string]string{
		"'a'":          `"a"`,
		"'a</style>'":  `"a\3c /style\3e "`,
		`"]]>-->"`:     `"]]\3e --\3e "`,
		"'é\\a '":      `"\c3 \a9 \0a "`,
		"url('a')":     `url("a")`,
		"URL( \"a\" )": `URL( "a" )`,
		"url(a)":       "",
		"'a\nb'":       "",
	} {
		checkValue(t, p, value, want)
	}
	p.Functions = nil
	checkValue(t, p, "url('a')", "")
	// A text in a selector may be in any case.
	checkRinsed(t, strict(), rinsedCase{"[k='a']{color:x}", `.r [k="a"]{color:x}`})
}

func TestP6AtRules(t *testing.T) {
	checkRinsed(t, strict(), []rinsedCase{
		{"@media print{p{color:red}}", "@media print{.r p{color:red}}"},
		{"@MEDIA Print{p{color:red}}", "@media Print{.r p{color:red}}"},
		{`@\6d edia x{p{color:red}}`, "@media x{.r p{color:red}}"},
		{"@media{p{color:red}}", "@media{.r p{color:red}}"},
		{"@media {p{color:red}}", "@media{.r p{color:red}}"},
		{"@media/**/x/**/{p{color:red}}", "@media x{.r p{color:red}}"},
		{"@media  x  y  {p{color:red}}", "@media x y{.r p{color:red}}"},
		{"@media(a:b){p{color:red}}", "@media (a:b){.r p{color:red}}"},
		{"@media \\}{p{color:red}}", `@media \7d {.r p{color:red}}`},
		{"@layer a,b{p{color:red}b{color:blue}}", "@layer a,b{.r p{color:red}.r b{color:blue}}"},
		{"@media x{p{color:red", "@media x{.r p{color:red}}"},
		{"@media x{}", ""},
		{"@media x{p{top:0}}b{color:x}", ".r b{color:x}"},
		{"@media x;p{color:red}", ".r p{color:red}"},
		{"@media x", ""},
		{"@media x{color:red}", ""},
		{"@medias x{p{color:red}}", ""},
		{"@import 'x';p{color:red}", ".r p{color:red}"},
		{"@import x{p{color:red}}b{color:x}", ".r b{color:x}"},
		{"@font-face{color:red}", ""},
	}...)
	p := strict()
	p.AtRules = nil
	checkRinsed(t, p, rinsedCase{"@media x{p{color:red}}", ""})
}

func TestP6AtRuleHeads(t *testing.T) {
	for head, want := range map[string]string{
		"x and (a: 1px)": "x and (a: 1px)",
		"calc(1)":        "calc(1)",
		"[{a}]":          "[{a}]",
		"a:b":            "a:b",
		"'a'":            "",
		"url(a)":         "",
		"f(a)":           "",
		"a>b":            "",
		"(a<b)":          "",
		"(a;b)":          "",
		"!x":             "",
		"@x":             "",
		"<!--":           "",
		"a)":             "",
	} {
		if want != "" {
			want = "@media " + want + "{.r p{color:red}}"
		}
		checkRinsed(t, strict(), rinsedCase{"@media " + head + "{p{color:red}}b{color:x}", want + ".r b{color:x}"})
	}
	p := strict()
	p.Texts = true
	checkRinsed(t, p, rinsedCase{"@media 'a<'{p{color:red}}", `@media "a\3c "{.r p{color:red}}`})
}

func TestP6AtRuleBodies(t *testing.T) {
	checkRinsed(t, strict(), []rinsedCase{
		{"@media x{@media y{p{color:red}}}", "@media x{@media y{.r p{color:red}}}"},
		{"@media x{@layer y{p{color:red}}b{color:x}}", "@media x{@layer y{.r p{color:red}}.r b{color:x}}"},
		{"@media x{@other y{p{color:red}}b{color:x}}", "@media x{.r b{color:x}}"},
		{"@media x{@other y;b{color:x}}", "@media x{.r b{color:x}}"},
		{"@media x{@media y{}}", ""},
		{"@media x{@media y{p{top:0}}}", ""},
		{"@other x{@media y{p{color:red}}}", ""},
		// In a block Open and Close are not passed over.
		{"@media x{<!-- p{color:red} b{color:x}}", "@media x{.r b{color:x}}"},
		{"@media x{p{color:red} --> b{color:x}}", "@media x{.r p{color:red}}"},
		{"@media x{p{color:red}} --> b{color:x}", "@media x{.r p{color:red}}.r b{color:x}"},
	}...)
}

func TestP6OddNames(t *testing.T) {
	checkRinsed(t, lenient(), []rinsedCase{
		{`@\- x{p{color:red}}`, `@\2d  x{p{color:red}}`},
		{`@\-{p{color:red}}`, `@\2d {p{color:red}}`},
		{"@-- x{p{color:red}}", "@-- x{p{color:red}}"},
		{"@-A x{p{color:red}}", "@-a x{p{color:red}}"},
		{`p{color:\-(1)}`, `p{color:\2d (1)}`},
		{"p{color:--(1)}", "p{color:--(1)}"},
		{"p{color:-A(1)}", "p{color:-A(1)}"},
		{"p{A--:1}", "p{a--:1}"},
	}...)
}

func TestP6Selectors(t *testing.T) {
	for selector, want := range map[string]string{
		"p":                           "p",
		"DIV":                         "div",
		`\44 iv`:                      "div",
		"*":                           "*",
		"#A":                          "#A",
		"#1":                          `#\31 `,
		".X":                          ".X",
		`.\31 x`:                      `.\31 x`,
		"*#a.b":                       "*#a.b",
		"P.X#y":                       "p.X#y",
		"p/**/.x":                     "p.x",
		"é":                           `\c3 \a9 `,
		"--":                          "--",
		"-- > b":                      "-- > b",
		`\-`:                          `\2d `,
		"[k]":                         "[k]",
		"[ K ]":                       "[K]",
		`[\31 ]`:                      `[\31 ]`,
		"[k=v]":                       `[k="v"]`,
		"[ k = V ]":                   `[k="V"]`,
		"[k='']":                      `[k=""]`,
		"[k~=v]":                      `[k~="v"]`,
		"[k ^= 'a<b']":                `[k^="a\3c b"]`,
		"[k$=\"']]>\"]":               `[k$="']]\3e "]`,
		"[k*=v][l]":                   `[k*="v"][l]`,
		":ROOT":                       ":root",
		":first-child":                ":first-child",
		"p:Last-Child":                "p:last-child",
		":empty":                      ":empty",
		":NOT(p)":                     ":not(p)",
		":not( P , a>b )":             ":not(p,a > b)",
		":is(:not([k=v] , *) ~ b, c)": `:is(:not([k="v"],*) ~ b,c)`,
		":Nth-Child( ODD )":           ":nth-child(odd)",
		":nth-child(Even)":            ":nth-child(even)",
		":nth-child(0)":               ":nth-child(0)",
		":nth-child(000)":             ":nth-child(0)",
		":nth-child(007)":             ":nth-child(7)",
		":nth-child(0999)":            ":nth-child(999)",
		"a  b":                        "a b",
		"a\nb":                        "a b",
		"a>b":                         "a > b",
		"a +b":                        "a + b",
		"a~ b":                        "a ~ b",
		"a /**/ > /**/ b c":           "a > b c",
		`.\31  .\32  > .\33  p`:       `.\31  .\32  > .\33  p`,
	} {
		checkRinsed(t, strict(), []rinsedCase{
			{selector + "{color:x}", ".r " + want + "{color:x}"},
			{"i, " + selector + " ,b{color:x}", ".r i,.r " + want + ",.r b{color:x}"},
		}...)
	}
}

func TestP6NoSelectors(t *testing.T) {
	for _, selector := range []string{
		"", " ", ",", "p,", "> p", "p >", "p > > b", "p:hover", "p::before", "p:not()", "p:not(", "p:nth-child(n)", "p:nth-child(1000)", "p:nth-child(-1)", "p(b)",
		"p[k", "p[k=]", "p[=v]", "p[k|=v]", "p[k=v i]", "p.", "p#", "p b/**/c", "1", "p|b", "&", "p!", "'p'", "p;b",
	} {
		if strings.HasSuffix(selector, "(") || strings.HasSuffix(selector, "[k") {
			// What is open here takes the rest of the sheet into it.
			checkRinsed(t, strict(), rinsedCase{selector + "{color:x}", ""})
			continue
		}
		checkRinsed(t, strict(), rinsedCase{selector + "{color:x}b{color:y}", ".r b{color:y}"})
	}
}

// The sheet's bytes are made plain ahead of all else, and what stands in comments is none of it.
func TestP6Bytes(t *testing.T) {
	checkRinsed(t, strict(), []rinsedCase{
		{"p\r\nb\f{color:\r\nred\rblue}", ".r p b{color:red blue}"},
		{"p\x00{color:x}b{color:y}", ".r b{color:y}"},
		{"p{color:\xff\x80}", `.r p{color:\ff \80 }`},
		{"/*p{color:x}*/b{color:y}/*", ".r b{color:y}"},
		{"p{color:\x7f}", ""},
		{"\xef\xbb\xbfp{color:x}", `.r \ef \bb \bf p{color:x}`},
	}...)
}
