package rinse

import (
	"strings"
	"testing"

	"rinse/api"
)

func checkRefused(t *testing.T, sheet string, p api.Policy, want api.Errno) {
	t.Helper()
	if out, errno := Rinse(sheet, p); out != "" || errno != want {
		t.Errorf("P6: Rinse(%.20q, %+v) = %q, %d, want %d", sheet, p, out, errno, want)
	}
}

// names gives that many names.
func names(number int) []string {
	var all []string
	for i := range number {
		all = append(all, "n"+strings.Repeat("a", i))
	}
	return all
}

// lists sets each of the lists of a policy in turn.
var lists = []func(p *api.Policy, list []string){
	func(p *api.Policy, list []string) { p.Properties = list },
	func(p *api.Policy, list []string) { p.Functions = list },
	func(p *api.Policy, list []string) { p.AtRules = list },
}

func TestP6Roots(t *testing.T) {
	for _, root := range []string{"", "a", "z", "abcdefghijkl"} {
		p := strict()
		p.Root = root
		if out, errno := Rinse("p{color:x}", p); out == "" || errno != api.OK {
			t.Errorf("P6: the root %q: %q, %d", root, out, errno)
		}
	}
	for _, root := range []string{"abcdefghijklm", "A", "aB", "a1", "1", "a-b", "-", "a_", " ", "a ", "a.b", "a,b", "é", "\x00", "`", "{", strings.Repeat("a", 1000)} {
		p := strict()
		p.Root = root
		checkRefused(t, "p{color:x}", p, api.ErrPolicy)
	}
}

func TestP6Lists(t *testing.T) {
	long := strings.Repeat("a", 30)
	for i, set := range lists {
		for _, list := range [][]string{nil, {}, {"a"}, {"z"}, {"a-"}, {"a--b"}, {long}, {"a", "a"}, names(20)} {
			p := strict()
			set(&p, list)
			checkRefused(t, "", p, api.OK)
		}
		for _, list := range [][]string{
			{""}, {"a", ""}, {long + "a"}, {"A"}, {"aB"}, {"a1"}, {"1"}, {"a_"}, {"a b"}, {" "}, {"a("}, {"é"}, {"a\x00"}, {"`"}, {"{"}, {"*"}, {"a", "b", "C"}, names(21), make([]string, 21),
		} {
			p := strict()
			set(&p, list)
			checkRefused(t, "p{color:x}", p, api.ErrPolicy)
		}
		for _, name := range []string{"-", "-a", "--", "--a"} {
			p := strict()
			set(&p, []string{"a", name})
			want := api.OK
			if i == 0 {
				want = api.ErrPolicy
			}
			checkRefused(t, "", p, want)
		}
	}
}

func TestP6Long(t *testing.T) {
	longest := "p{color:x}" + strings.Repeat(" ", api.MaxSheet-len("p{color:x}"))
	checkRinsed(t, strict(), rinsedCase{longest, ".r p{color:x}"})
	checkRefused(t, longest+" ", strict(), api.ErrLong)
	// The bytes are counted as they are handed in.
	checkRefused(t, strings.Repeat("\r\n", api.MaxSheet/2)+"\n", strict(), api.ErrLong)
	checkRefused(t, strings.Repeat("a", 100000), strict(), api.ErrLong)
	// What comes out may be longer than a sheet that is taken in.
	many := strings.Repeat("p{color:é}", api.MaxSheet/len("p{color:é}"))
	out, errno := Rinse(many, strict())
	if errno != api.OK || out != strings.Repeat(`.r p{color:\c3 \a9 }`, len(many)/len("p{color:é}")) {
		t.Errorf("P6: %q, %d", out, errno)
	}
}

func TestP6Deep(t *testing.T) {
	nested := func(depth int) string { return strings.Repeat("(", depth) + strings.Repeat(")", depth) }
	checkRinsed(t, strict(), []rinsedCase{
		{"p{color:" + nested(api.MaxDepth-1) + "}", ".r p{color:" + nested(api.MaxDepth-1) + "}"},
		{strings.Repeat("@media x{", 7) + "p{color:y}", strings.Repeat("@media x{", 7) + ".r p{color:y}" + strings.Repeat("}", 7)},
		{nested(api.MaxDepth), ""},
	}...)
	for _, sheet := range []string{
		"p{color:" + nested(api.MaxDepth) + "}",
		strings.Repeat("@media x{", 8) + "p{color:y}",
		nested(api.MaxDepth + 1),
		strings.Repeat("[", api.MaxDepth+1),
		"p{color:x}" + strings.Repeat("f(", api.MaxDepth+1),
		strings.Repeat("(", api.MaxSheet),
	} {
		checkRefused(t, sheet, strict(), api.ErrDeep)
	}
	checkRinsed(t, strict(), rinsedCase{"/*" + strings.Repeat("(", 100) + "*/p{color:x}", ".r p{color:x}"})
}

// The order is that of P6: the policy, the length, the depth.
func TestP6OrderOfErrors(t *testing.T) {
	bad := strict()
	bad.Root = "R"
	deep := strings.Repeat("(", api.MaxDepth+1)
	long := strings.Repeat("(", api.MaxSheet+1)
	checkRefused(t, deep, bad, api.ErrPolicy)
	checkRefused(t, long, bad, api.ErrPolicy)
	checkRefused(t, long, strict(), api.ErrLong)
	checkRefused(t, deep, strict(), api.ErrDeep)
}
