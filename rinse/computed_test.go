package rinse

import (
	"strings"
	"testing"

	"rinse/api"
)

// checkComputed looks what a property of an element of the family comes to by some sheets.
func checkComputed(t *testing.T, elem int, property, want string, sheets ...string) {
	t.Helper()
	if got, errno := Computed(family(), sheets, elem, property); got != want || errno != api.OK {
		t.Errorf("P5: %s of %d by %q = %q, %d, want %q", property, elem, sheets, got, errno, want)
	}
}

// computedCase: a sheet, and what a property comes to by it.
type computedCase struct{ sheet, want string }

func checkAll(t *testing.T, elem int, property string, cases ...computedCase) {
	t.Helper()
	for _, c := range cases {
		checkComputed(t, elem, property, c.want, c.sheet)
	}
}

func TestP5Example(t *testing.T) {
	page := []api.Elem{
		{Parent: -1, Tag: "html"},
		{Parent: 0, Tag: "div", Classes: []string{"box"}},
		{Parent: 1, Tag: "p", Id: "a"},
		{Parent: 1, Tag: "p"},
	}
	for _, c := range []struct {
		elem           int
		property, want string
		sheets         []string
	}{
		{2, "color", "blue", []string{"p{color:red} #a{color:blue}", "p{color:green}"}},
		{3, "color", "green", []string{"p{color:red} #a{color:blue}", "p{color:green}"}},
		{2, "color", "RED", []string{"p{color:RED!important}", "p{color:red} #a{color:blue}", "p{color:green}"}},
		{3, "color", "RED", []string{"p{color:RED!important}", "p{color:red} #a{color:blue}", "p{color:green}"}},
		{2, "color", "red", []string{"div{color:red}"}},
		{0, "color", "", []string{"div{color:red}"}},
		{1, "width", "1px", []string{"div{--x:1px;width:var(--x)}"}},
		{2, "width", "", []string{"div{--x:1px;width:var(--x)}"}},
		{2, "width", "2px", []string{"p{width:var(--y, 2px)}"}},
		{2, "--a", "", []string{"p{--a:var(--b);--b:var(--a)}"}},
		{2, "--b", "", []string{"p{--a:var(--b);--b:var(--a)}"}},
	} {
		if got, errno := Computed(page, c.sheets, c.elem, c.property); got != c.want || errno != api.OK {
			t.Errorf("P5: %s of %d by %q = %q, %d, want %q", c.property, c.elem, c.sheets, got, errno, c.want)
		}
	}
}

func TestP5Rules(t *testing.T) {
	checkAll(t, 2, "top", []computedCase{
		{"", ""},
		{"p{top:1}", "1"},
		{" /**/ p /**/ {top:1} ", "1"},
		{"p{top:1", "1"},
		{"p", ""},
		{"p{top:1}b", "1"},
		{"b{top:2}p{top:1}i{top:3}", "1"},
		{"<!-- p{top:1} -->", "1"},
		{"--><!--p{top:1}", "1"},
		{"p<!--{top:1}", ""},
		{"p -->{top:1}", ""},
		{"{top:1}", ""},
		{"b;p{top:1}", ""},
		{"; p{top:1}", ""},
		{"; i{top:2} p{top:1}", "1"},
		{"}p{top:1}", ""},
		{"p{top:1}}p{top:2}", "1"},
		{"p{top:1}}p{top:2}p{top:3}", "3"},
		{"(b{top:2})p{top:1}", ""},
		{"(b{top:2})p{top:1}p{top:3}", "3"},
		{"[b{top:2}]{top:1}p{top:3}", "3"},
		{"f({top:2}){top:1}p{top:3}", "3"},
		{"p,{top:1}", ""},
		{"p:hover,p{top:1}", ""},
		{"b,i,p{top:1}", "1"},
		{strings.Repeat("b,", api.MaxSelectors-1) + "p{top:1}", "1"},
		{strings.Repeat("b,", api.MaxSelectors) + "p{top:1}", ""},
		{"p{top:1}p{top:2}", "2"},
		{"p{}", ""},
	}...)
}

func TestP5AtRules(t *testing.T) {
	checkAll(t, 2, "top", []computedCase{
		{"@x;p{top:1}", "1"},
		{"@x p{top:1}", ""},
		{"@x p{top:1}p{top:2}", "2"},
		{"@x{p{top:1}}", ""},
		{"@x{p{top:1}}p{top:2}", "2"},
		{"p{top:2}@x{p{top:1}}", "2"},
		{"@x 'a;' p{b;c};p{top:1}", ""},
		{"@x (;{}) [{;}] f({};);p{top:1}", "1"},
		{"@x } ;p{top:1}", "1"},
		{"@x", ""},
		{"@x p", ""},
		{"@x{p{top:1}", ""},
		{"@;p{top:1}p{top:2}", "2"},
		{"p @x{top:1}", ""},
		{"@x;@y;@z{}p{top:1}", "1"},
		{"@x<!--;p{top:1}", "1"},
	}...)
}

func TestP5Declarations(t *testing.T) {
	checkAll(t, 2, "top", []computedCase{
		{"p{top:1;left:2}", "1"},
		{"p{left:2;top:1}", "1"},
		{"p{;; top /**/ : /**/ 1 ; ;}", "1"},
		{"p{top:1;top:2}", "2"},
		{"p{top:}", ""},
		{"p{top:1;top:}", ""},
		{"p{top: ; left:1}", ""},
		{"p{top}", ""},
		{"p{top:1;top}", "1"},
		{"p{top:1;top 2}", "1"},
		{"p{top:1;top=2}", "1"},
		{"p{top:1;top x:2}", "1"},
		{"p{top:1;:2}", "1"},
		{"p{top:1;'top':2}", "1"},
		{"p{top:1;#top:2}", "1"},
		{"p{top:1;top(:2)}", "1"},
		{"p{top:1;(top:2)}", "1"},
		{"p{top:1;{top:2}}", "1"},
		{"p{left;top:1}", "1"},
		{"p{left top:1}", ""},
		{"p{'a' top:1}", ""},
		{"p{'a';top:1}", "1"},
		{"p{b{top:2}top:1}", ""},
		{"p{b{top:2};top:1}", "1"},
		{"p{1 ; top:1}", "1"},
		{"p{top::1}", ":1"},
		{"p{top:a:b}", "a:b"},
		{"p{left:a(;top:2);top:1}", "1"},
		{"p{left:{;top:2};top:1}", "1"},
		{"p{left:[;top:2];top:1}", "1"},
		{"p{left:';top:2';top:1}", "1"},
		{"p{left:a)]b;top:1}", "1"},
		{"p{top:1<!--}", "1/**/<!--"},
		{"p{<!-- top:1}", ""},
		{"p{<!--;top:1}", "1"},
	}...)
}

func TestP5AtRulesInBodies(t *testing.T) {
	checkAll(t, 2, "top", []computedCase{
		{"p{@x;top:1}", "1"},
		{"p{@x y;top:1}", "1"},
		{"p{@x{top:2}top:1}", "1"},
		{"p{@x y {top:2} top:1}", "1"},
		{"p{@x top:2}", ""},
		{"p{@x (;) {} top:1}", "1"},
		{"p{;@x;top:1}", "1"},
		{"p{top:1;@x{top:2}}", "1"},
		{"p{top:@x;left:2}", "@x"},
		{"p{top:1 @x{top:2};left:2}", "1 @x{top:2}"},
	}...)
}

func TestP5Important(t *testing.T) {
	for _, important := range []string{
		"1!important", "1 !important", "1 ! important ", "1!IMPORTANT", "1 /**/!/**/ /**/important/**/ ", "1!\\69mportant",
	} {
		checkComputed(t, 2, "top", "1", "p{top:"+important+";top:2}")
		checkComputed(t, 2, "top", "1", "p{top:2;top:"+important+"}")
		checkComputed(t, 2, "top", "1", "p{top:"+important+"}#a{top:2}", "#a{top:3}")
	}
	checkAll(t, 2, "top", []computedCase{
		{"p{top:!important;top:1}", ""},
		{"p{top:!important}", ""},
		{"p{top:important;top:1}", "1"},
		{"p{top:important}", "important"},
		{"p{top:1 important}", "1 important"},
		{"p{top:! x}", "! x"},
		{"p{top:1!importan;top:2}", "2"},
		{"p{top:1!important x}", "1/**/!/**/important x"},
		{"p{top:1!important x;top:2}", "2"},
		{"p{top:1!'important';top:2}", "2"},
		{"p{top:1!important!important}", "1/**/!/**/important"},
		{"p{top:1!!important}", "1/**/!"},
		{"p{top:(1!important);top:2}", "2"},
		{"p{top:1!important;top:2!important}", "2"},
		{"p{top:1!important}#a{top:2!important}", "2"},
		{"#a{top:1!important}p{top:2!important}", "1"},
		{"#a{top:1}p{top:2!important}", "2"},
	}...)
	checkComputed(t, 2, "top", "1", "#a{top:1!important}", "p{top:2!important}")
	checkComputed(t, 2, "--x", "1", "#a{--x:1 ! important}", "#a{--x:2}")
}

func TestP5Properties(t *testing.T) {
	for _, property := range []string{"top", "TOP", "tOp"} {
		checkComputed(t, 2, property, "1", "p{top:1}")
		checkComputed(t, 2, property, "1", "p{TOP:1}")
		checkComputed(t, 2, property, "2", "p{top:1;Top:2}")
		checkComputed(t, 2, property, "1", "p{t\\6fp:1}")
		checkComputed(t, 2, property, "1", "p{\\54OP:1}")
		checkComputed(t, 2, property, "", "p{-top:1}")
	}
	checkComputed(t, 2, "COLOR", "1", "div{color:1}")
	checkComputed(t, 2, "--x", "1", "p{--x:1;--X:2}")
	checkComputed(t, 2, "--X", "2", "p{--x:1;--X:2}")
	checkComputed(t, 2, "--X", "", "p{--x:1}")
	checkComputed(t, 2, "--", "1", "p{--:1}")
	checkComputed(t, 5, "--", "1", "b{--:1}")
	checkComputed(t, 2, "-X", "1", "p{-x:1}")
	checkComputed(t, 5, "-x", "", "b{-x:1}")
	checkComputed(t, 2, "--x", "1", "p{\\2d-x:1}")
	checkComputed(t, 2, "--\xc3\x89", "1", "p{--\xc3\x89:1}")
	checkComputed(t, 2, "\xc3\x89", "1", "p{\xc3\x89:1}")
	checkComputed(t, 2, "\xc3\xa9", "", "p{\xc3\x89:1}")
	checkComputed(t, 2, "", "", "p{:1}", "p{top:1}")
	checkComputed(t, 2, " top", "", "p{top:1}")
	checkComputed(t, 2, "t\\6fp", "", "p{top:1}")
	long := strings.Repeat("A", api.MaxTest)
	checkComputed(t, 2, long, "1", "p{"+strings.ToLower(long)+":1}")
}

// Each selector of a row weighs less than those of the next row, and as much as the others of its own.
// All match the element 3.
func TestP5Weight(t *testing.T) {
	rows := [][]string{
		{"*", "* *", "* > *", "* + *", ":is(*)", "*:is(*)"},
		{"p", "* p", ":is(p)", ":is(*,p,p)", ":not(b)", ":not(b,i)"},
		{"div p", "div > p", "html p", "p ~ p", "p + p", "div :is(p)", "p:not(b)", "p:is(*,p)", ":is(p,div p)", ":not(p b)"},
		{"html div p", "html > div > p", "div p + p", "p:not(div b)"},
		{".x", "*.y", "[k]", "[k='v w-2']", "[k~=v]", "[e]", ":empty", ":nth-child(2)", ":nth-child(even)", ":not(:root)", ":not(:first-child)", ":not(:last-child)", ":not(.z)", ":is(.x,p)", ":is(p,html,.z)"},
		{"p.x", "div .y", "p[k]", ":empty:is(p)", "p:nth-child(2)", ".box p", "p:is(html,.z,p)", ":is(b.z,p)", "[k]:not(b)"},
		{"div p.x", "html .box p"},
		{".x.y", ".x.x", "[k][k]", ".box .x", ":root .x", ":empty.x", ".x:not(.z)", ":is(:empty,.z.z)"},
		{"p.x.y", "p:empty:nth-child(2)"},
		{":is(p,#z)", ":not(#z)", ":is(*,#q,html)", ":not(:is(#z))"},
		{"p:is(p,#z)", "p:not(#z)", ":is(p#z,p)", "p + :not(#z)"},
		{"#a + *.x", "#a ~ .y", "#a + [k]", ":not(.x#z)"},
		{":not(#z):not(#z)", "#a + :not(#z)", ":is(#y#z,p)"},
	}
	var lighter []string
	for _, row := range rows {
		for _, one := range row {
			for _, other := range row {
				checkComputed(t, 3, "top", "other", one+"{top:one}"+other+"{top:other}")
			}
			for _, light := range lighter {
				checkComputed(t, 3, "top", "heavy", one+"{top:heavy}"+light+"{top:light}")
			}
		}
		lighter = row
	}
}

// Ten of the lighter kind do not weigh as much as one of the heavier.
func TestP5WeightNumberByNumber(t *testing.T) {
	many := strings.Repeat(":is(p)", 12)
	checkComputed(t, 2, "top", "1", ".x{top:1}"+many+"{top:2}")
	checkComputed(t, 2, "top", "1", "#a{top:1}"+strings.Repeat(".x", 12)+"{top:2}")
	checkComputed(t, 2, "top", "2", "#a{top:1}#a"+many+"{top:2}")
	checkComputed(t, 2, "top", "1", "#a"+many+"{top:1}#a{top:2}")
}

// Of a rule's selectors those alone count that match.
func TestP5WeightOfLists(t *testing.T) {
	checkAll(t, 2, "top", []computedCase{
		{"p,#a{top:1}.x{top:2}", "1"},
		{"#a,p{top:1}.x{top:2}", "1"},
		{"p,#z{top:1}.x{top:2}", "2"},
		{"#z,p{top:1}p{top:2}", "2"},
		{"#z,*,p{top:1}*{top:2}", "1"},
		{"b,i{top:1}*{top:2}", "2"},
	}...)
}

func TestP5Order(t *testing.T) {
	checkComputed(t, 2, "top", "4", "p{top:1}", "p{top:2}", "p{top:3}", "p{top:4}")
	checkComputed(t, 2, "top", "1", "p{top:1}", "b{top:2}", "", "p{left:4}")
	checkComputed(t, 2, "top", "3", "p{top:1}", "p{top:2;top:3}", "*{top:4}")
	checkComputed(t, 2, "top", "2", "p{top:1}", "#a{top:2}", "p{top:3}")
	checkComputed(t, 2, "top", "1", "p{top:1!important}", "#a{top:2}", "p{top:3}")
	checkComputed(t, 2, "top", "3", "p{top:1!important}", "#a{top:2}", "p{top:3!important}")
	checkComputed(t, 3, "top", "", "#a{top:1}")
	checkComputed(t, 2, "top", "")
}

func TestP5HandedDown(t *testing.T) {
	for _, property := range []string{"color", "font-size", "quotes", "--x", "--", "--color"} {
		sheet := ".box{" + property + ":1}"
		for elem, want := range []string{"", "1", "1", "1", "1", "1", "", "", ""} {
			checkComputed(t, elem, property, want, sheet)
		}
		checkComputed(t, 5, property, "2", sheet+"b{"+property+":2}")
		checkComputed(t, 5, property, "", sheet+"b{"+property+":}")
	}
	for _, property := range []string{"top", "font", "colors", "-x", "x--", "x", "font_size"} {
		sheet := ".box{" + property + ":1}"
		for elem, want := range []string{"", "1", "", "", "", "", "", "", ""} {
			checkComputed(t, elem, property, want, sheet)
		}
	}
	checkComputed(t, 5, "color", "2", "*{color:2}.box{color:1}")
}

func TestP5Words(t *testing.T) {
	for _, c := range []struct{ value, color, top string }{
		{"inherit", "1", "1"},
		{"InHerit", "1", "1"},
		{" /**/ inherit /**/ ", "1", "1"},
		{"inherit!important", "1", "1"},
		{"\\69nherit", "1", "1"},
		{"unset", "1", ""},
		{"UNSET", "1", ""},
		{"initial", "", ""},
		{"Initial", "", ""},
		{"inherit x", "inherit x", "inherit x"},
		{"x unset", "x unset", "x unset"},
		{"initial,", "initial,", "initial,"},
		{"(inherit)", "(inherit)", "(inherit)"},
		{"inherit()", "inherit()", "inherit()"},
		{"'inherit'", "\"inherit\"", "\"inherit\""},
		{"#unset", "#unset", "#unset"},
		{"initials", "initials", "initials"},
		{"revert", "revert", "revert"},
		{"none", "none", "none"},
	} {
		sheet := ".box{color:1;top:1;--x:1}p{color:" + c.value + ";top:" + c.value + ";--x:" + c.value + "}"
		checkComputed(t, 2, "color", c.color, sheet)
		checkComputed(t, 2, "--x", c.color, sheet)
		checkComputed(t, 2, "top", c.top, sheet)
	}
	for _, property := range []string{"color", "top", "--x"} {
		for _, word := range []string{"inherit", "unset", "initial"} {
			checkComputed(t, 0, property, "", "*{"+property+":"+word+"}")
		}
		checkComputed(t, 5, property, "1", ".box{"+property+":1}b,p{"+property+":inherit}")
		checkComputed(t, 5, property, "", ".box{"+property+":1}b{"+property+":initial}p{"+property+":inherit}")
	}
	// The parent's is what it comes to, not what is written there.
	checkComputed(t, 5, "top", "1", "b{--x:1;top:var(--x)}p{--x:2;top:inherit}")
}

func TestP5Bad(t *testing.T) {
	for _, bad := range []string{
		"'a\n", "\"\n x", "url(a b)", "url(()", "a url(a') b", "f(url(a b))", "[(f(url(a\")))]", "{'\n}", "url(a b) initial", "var(--x,url(a b))", "var(--y) url(a b)",
	} {
		sheet := ".box{color:1;top:1;--x:1}p{color:" + bad + ";top:" + bad + ";--x:" + bad + "}"
		checkComputed(t, 2, "color", "1", sheet)
		checkComputed(t, 2, "top", "", sheet)
		if !strings.Contains(bad, "--x") {
			checkComputed(t, 2, "--x", "1", sheet)
		}
	}
	// A Bad one wins all the same over what stands ahead of it.
	checkComputed(t, 2, "top", "", "p{top:1;top:url(a b)}")
	checkComputed(t, 2, "top", "1", "p{top:url(a b);top:1}")
	checkComputed(t, 2, "top", "1", "p{--y:url(a b);--x:1;top:var(--y,var(--x))}")
}

func TestP5Refused(t *testing.T) {
	long := strings.Repeat("a", api.MaxSheet+1)
	deep := strings.Repeat("(", api.MaxDepth+1)
	name := strings.Repeat("a", api.MaxTest+1)
	for _, c := range []struct {
		page     []api.Elem
		sheets   []string
		elem     int
		property string
		want     api.Errno
	}{
		{nil, nil, 0, "top", api.ErrPage},
		{nil, []string{long}, 0, name, api.ErrPage},
		{nil, []string{deep}, 0, "top", api.ErrPage},
		{rooted(0), []string{long, deep}, 0, name, api.ErrPage},
		{wide(api.MaxElems + 1), nil, 0, "top", api.ErrPage},
		{family(), nil, -1, "top", api.ErrPage},
		{family(), nil, 9, "top", api.ErrPage},
		{family(), []string{long, deep}, 9, name, api.ErrPage},
		{family(), make([]string, api.MaxSheets+1), 0, "top", api.ErrLong},
		{family(), []string{"", "", "", "", deep}, 0, "top", api.ErrLong},
		{family(), []string{long}, 0, "top", api.ErrLong},
		{family(), []string{"", "", "", long}, 0, "top", api.ErrLong},
		{family(), []string{deep, long}, 0, "top", api.ErrLong},
		{family(), nil, 0, name, api.ErrLong},
		{family(), []string{deep}, 0, name, api.ErrLong},
		{family(), []string{deep}, 0, "top", api.ErrDeep},
		{family(), []string{"", "p{top:1}", "", deep}, 0, "top", api.ErrDeep},
		{family(), []string{"p{" + deep[1:]}, 0, "top", api.ErrDeep},
		{family(), []string{"p{top:1}b{" + deep[1:] + strings.Repeat(")", api.MaxDepth) + "}"}, 2, "top", api.ErrDeep},
		{family(), []string{"p{top:1}@x " + strings.Repeat("f(", api.MaxDepth+1)}, 2, "top", api.ErrDeep},
		{family(), []string{"p{top:1}@x" + strings.Repeat("{", api.MaxDepth+1)}, 2, "top", api.ErrDeep},
	} {
		if got, errno := Computed(c.page, c.sheets, c.elem, c.property); got != "" || errno != c.want {
			t.Errorf("P5: Computed(.., %q, %d, %q) = %q, %d, want %d", c.sheets, c.elem, c.property, got, errno, c.want)
		}
	}
}

func TestP5Bounds(t *testing.T) {
	checkComputed(t, 2, "top", "1", "", "", "", "p{top:1}")
	const begin = "p{top:1;left:"
	checkComputed(t, 2, "top", "1", begin+strings.Repeat("a", api.MaxSheet-len(begin)))
	inner := strings.Repeat("(", api.MaxDepth-1)
	checkComputed(t, 2, "top", inner+"a"+strings.ReplaceAll(inner, "(", ")"), "p{top:"+inner+"a")
	checkComputed(t, 2, "top", "1", strings.Repeat("(", api.MaxDepth)+strings.Repeat(")", api.MaxDepth)+"{}p{top:1}")
	// What is not substituted may be as long as the sheet has room for it.
	value := strings.Repeat("a", api.MaxValue+100)
	checkComputed(t, 2, "top", value, "p{top:"+value+"}")
	checkComputed(t, 2, "--x", value, "p{--x:"+value+"}")
}
