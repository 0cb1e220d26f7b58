package rinse

import (
	"math/rand"
	"slices"
	"strings"
	"testing"

	"rinse/api"
	"rinse/rules"
	"rinse/write"
)

// eachRinsed hands on drawn sheets with what comes of them by two policies. Enough of that must be something.
func eachRinsed(t *testing.T, sheets int, use func(sheet, out string, p api.Policy)) {
	t.Helper()
	r := rand.New(rand.NewSource(7))
	something := 0
	rooted := lenient()
	rooted.Root = "r"
	for range sheets {
		sheet := drawnSheet(r)
		for _, p := range []api.Policy{strict(), rooted, lenient()} {
			out, errno := Rinse(sheet, p)
			if errno != api.OK && errno != api.ErrDeep {
				t.Fatalf("P6: Rinse(%q): %d", sheet, errno)
			}
			if out != "" {
				something++
			}
			use(sheet, out, p)
		}
	}
	if something < sheets {
		t.Errorf("only of %d something came", something)
	}
}

func checkPlain(t *testing.T, sheet, out string) {
	t.Helper()
	for i := range len(out) {
		if out[i] < 32 || out[i] > 126 {
			t.Fatalf("P7: Rinse(%q) = %q: the byte %d", sheet, out, out[i])
		}
	}
	for _, text := range []string{"</", "<!--", "-->", "]]>"} {
		if strings.Contains(out, text) {
			t.Fatalf("P7: Rinse(%q) = %q: %q", sheet, out, text)
		}
	}
}

func checkTwice(t *testing.T, sheet, out string, p api.Policy) {
	t.Helper()
	if len(out) > api.MaxSheet {
		return
	}
	p.Root = ""
	if again, errno := Rinse(out, p); again != out || errno != api.OK {
		t.Fatalf("P7: Rinse(%q) = %q, and rinsed again %q, %d", sheet, out, again, errno)
	}
}

func TestP7PlainAndTheSameAgain(t *testing.T) {
	eachRinsed(t, 20000, func(sheet, out string, p api.Policy) {
		checkPlain(t, sheet, out)
		checkTwice(t, sheet, out, p)
	})
}

// Every byte, in each place where one can stand, also as an escape.
func TestP7AnyByte(t *testing.T) {
	frames := [][2]string{
		{"p", "{color:x}"}, {".x", "{color:x}"}, {"#", "{color:x}"}, {"[k", "]{color:x}"}, {"[k='", "']{color:x}"}, {"p--", "> b{color:x}"}, {"[k]", ">b{color:x}"},
		{"p{--x", ":1}"}, {"p{color:", "}"}, {"p{color:a", "}"}, {"p{color:1", "}"}, {"p{color:1e", "1}"}, {"p{color:'", "'}"}, {"p{color:#", "}"}, {"p{color:--", ">}"}, {"p{color:(", ")a}"},
		{"@media", "{p{color:x}}"}, {"@media x", "{p{color:x}}"}, {"@media{", "p{color:x}}"},
	}
	for c := range 256 {
		one := string([]byte{byte(c)})
		for _, frame := range frames {
			for _, piece := range []string{one, "\\" + one, write.Name(one), one + one} {
				sheet := frame[0] + piece + frame[1]
				out, errno := Rinse(sheet, lenient())
				if errno != api.OK {
					t.Fatalf("P6: Rinse(%q): %d", sheet, errno)
				}
				checkPlain(t, sheet, out)
				checkTwice(t, sheet, out, lenient())
			}
		}
	}
}

// Each two values that may be, beside each other, are read again as they are.
func TestP7AnyTwoValues(t *testing.T) {
	all := []string{"a", "--", "-a", `\-`, `\31 `, `a\7d `, "#a", "#1", "1", "+1", ".5", "1e3", "1%", "1px", "1em", "1-", "1--", "'a'", "calc(1)", `\-(1)`, "--()", "url('a')", "()", "[]", "{}", "+", "-", "*", "/", ".", ",", ":", "%", "=", " ", "e3", "px"}
	for _, first := range all {
		for _, second := range all {
			for _, between := range []string{"/**/", ""} {
				values := first + between + second
				for _, sheet := range []string{"p{color:" + values + "}", "p{--x:" + values + "!important}", "p{color:(" + values + ")}", "@media " + values + "x{p{color:" + values + ";width:1}}"} {
					out, _ := Rinse(sheet, lenient())
					checkPlain(t, sheet, out)
					checkTwice(t, sheet, out, lenient())
				}
			}
		}
	}
}

// estate is a page with elements below, at, beside, above and behind some of the class r.
func estate() []api.Elem {
	return []api.Elem{
		{Parent: -1, Tag: "html"},
		{Parent: 0, Tag: "p", Classes: []string{"x"}},
		{Parent: 0, Tag: "div", Classes: []string{"x", "r"}},
		{Parent: 2, Tag: "p", Classes: []string{"x"}},
		{Parent: 2, Tag: "b", Id: "a"},
		{Parent: 4, Tag: "p", Classes: []string{"r"}},
		{Parent: 0, Tag: "div", Classes: []string{"x"}, Attrs: []api.Attr{{Name: "k", Value: "v"}}},
		{Parent: 6, Tag: "p", Id: "a"},
		{Parent: 7, Tag: "b", Classes: []string{"rr", "r-r"}},
		{Parent: 6, Tag: "p", Id: "r", Attrs: []api.Attr{{Name: "class", Value: "r"}}},
	}
}

// outside gives the elements of a page that neither have the class r nor stand below one that has.
func outside(page []api.Elem) []int {
	var all []int
	for i, elem := range page {
		if !slices.Contains(elem.Classes, "r") && (i == 0 || slices.Contains(all, elem.Parent)) {
			all = append(all, i)
		}
	}
	return all
}

// ours are the sheets of a page's owner.
var ours = [][]string{
	{},
	{"*{color:1;width:2;--x:3}p{color:var(--x)}.x{--x:4!important}#a{width:inherit}", "b{width:var(--x,5)}"},
}

// comesTo gives what some properties of some elements come to.
func comesTo(t *testing.T, elems []int, sheets ...string) []string {
	t.Helper()
	var all []string
	for _, elem := range elems {
		for _, property := range []string{"color", "width", "--x"} {
			text, errno := Computed(estate(), sheets, elem, property)
			if errno != api.OK {
				t.Fatalf("P5: Computed(.., %q, ..): %d", sheets, errno)
			}
			all = append(all, text)
		}
	}
	return all
}

// watch is some elements, with what their properties come to by each of ours.
type watch struct {
	elems  []int
	before [][]string
}

func watched(t *testing.T, elems ...int) watch {
	t.Helper()
	w := watch{elems: elems}
	for _, sheets := range ours {
		w.before = append(w.before, comesTo(t, elems, sheets...))
	}
	return w
}

// changedBy tells whether a sheet that is put behind ours changes something.
func (w watch) changedBy(t *testing.T, sheet string) bool {
	t.Helper()
	if sheet == "" || len(sheet) > api.MaxSheet {
		return false
	}
	for i, sheets := range ours {
		with := append(slices.Clone(sheets), sheet)
		if !slices.Equal(w.before[i], comesTo(t, w.elems, with...)) {
			return true
		}
	}
	return false
}

func TestP7OutsideTheRoot(t *testing.T) {
	out := watched(t, outside(estate())...)
	if !slices.Equal(out.elems, []int{0, 1, 6, 7, 8, 9}) {
		t.Fatalf("outside are %v", out.elems)
	}
	in := watched(t, 3, 4, 5)
	p := lenient()
	selectors := []string{"*", "html", "p", ".x", ".r", "#a", "b", "[k]", ":root", ":not(.r)", ":not(.r *)", ":is(html, .r, p)", ":nth-child(odd)"}
	reaches, inside := 0, 0
	for _, first := range selectors {
		for _, second := range selectors {
			for _, between := range []string{",", " ", ">", "+", "~"} {
				sheet := first + between + second + "{color:9!important;width:9!important;--x:9!important}"
				free, _ := Rinse(sheet, p)
				p.Root = "r"
				bound, _ := Rinse(sheet, p)
				p.Root = ""
				if out.changedBy(t, bound) {
					t.Errorf("P7: of %q comes %q, which reaches beyond the root", sheet, bound)
				}
				if out.changedBy(t, free) {
					reaches++
				}
				if in.changedBy(t, bound) {
					inside++
				}
			}
		}
	}
	// Without a root these do reach there, and with it they still do something.
	if reaches < 100 || inside < 100 {
		t.Errorf("%d reach all, %d below the root", reaches, inside)
	}
}

func TestP7DrawnOutsideTheRoot(t *testing.T) {
	out := watched(t, outside(estate())...)
	eachRinsed(t, 500, func(sheet, rinsed string, p api.Policy) {
		if p.Root != "" && out.changedBy(t, rinsed) {
			t.Errorf("P7: of %q comes %q, which reaches beyond the root", sheet, rinsed)
		}
	})
}

// rulesOf tells the rules of a sheet.
func rulesOf(t *testing.T, sheet string) []string {
	t.Helper()
	read, ok := readSheet(sheet)
	if !ok {
		t.Fatalf("%q is too deep", sheet)
	}
	return toldRules(read)
}

func toldRules(list []rules.Rule) []string {
	var all []string
	for _, rule := range list {
		body := ";"
		if rule.HasBody {
			body = "{" + write.Values(rule.Body) + "}"
		}
		all = append(all, "@"+rule.At+"|"+write.Values(rule.Head)+"|"+body)
	}
	return all
}

func checkBetween(t *testing.T, ahead, out, behind string) {
	t.Helper()
	if len(ahead)+len(out)+len(behind) > api.MaxSheet {
		return
	}
	want := slices.Concat(rulesOf(t, ahead), rulesOf(t, out), rulesOf(t, behind))
	if got := rulesOf(t, ahead+out+behind); !slices.Equal(got, want) {
		t.Fatalf("P7: %q between %q and %q: the rules %q, want %q", out, ahead, behind, got, want)
	}
}

func TestP7BetweenTwoTexts(t *testing.T) {
	aheads := []string{"i{top:0}", "@m x{i{top:0}}", "<!-- i{top:(a)} --> b;{}", "i{top:'}'}"}
	behinds := []string{"", "i{top:1}", "}i{top:1}b{top:2}", ")i{}", "]", "-->i{top:1}", "<!-- i{top:1}", "*/i{top:1}", "/i{top:1}", "'i{top:1}", "\"", "{top:1}", ";i{top:1}", ":i{}", "@m;i{top:1}", "\n", "\\", "i", "(i{top:1}"}
	eachRinsed(t, 200, func(_, out string, _ api.Policy) {
		for _, ahead := range aheads {
			for _, behind := range behinds {
				checkBetween(t, ahead, out, behind)
			}
		}
	})
}

// What is told by the calls alone: the rules ahead and behind still do what they did.
func TestP7BetweenTwoTextsComputed(t *testing.T) {
	eachRinsed(t, 1500, func(sheet, out string, p api.Policy) {
		between := "b{top:1}" + out + "b{left:2}"
		if p.Root == "" || len(between) > api.MaxSheet {
			return
		}
		for property, want := range map[string]string{"top": "1", "left": "2"} {
			if got, errno := Computed(estate(), []string{between}, 8, property); got != want || errno != api.OK {
				t.Errorf("P7: of %q comes %q: between two rules %s is %q, %d", sheet, out, property, got, errno)
			}
		}
	})
}
