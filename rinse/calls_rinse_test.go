package rinse

import (
	"slices"
	"strings"
	"testing"

	"rinse/api"
)

func TestP1RinseOfAnything(t *testing.T) {
	for _, a := range sheetPieces {
		for _, b := range sheetPieces {
			for _, frame := range []string{"", "p{color:", "p{--x:", "@media ", "@media{", "p", "p:not("} {
				checkRinseCalm(t, frame+a+b)
			}
		}
	}
	eachSheet(func(sheet string) { checkRinseCalm(t, "p{color:"+sheet) })
	for _, a := range selectorPieces {
		for _, b := range selectorPieces {
			checkRinseCalm(t, a+b+"{color:x}")
		}
	}
}

// checkRinseCalm looks whether Rinse answers something, and the same again, whatever else is asked.
func checkRinseCalm(t *testing.T, sheet string) {
	t.Helper()
	first, errno := Rinse(sheet, lenient())
	other, errnoOther := Rinse(sheet, strict())
	again, errnoAgain := Rinse(sheet, lenient())
	if errno != api.OK || errnoOther != api.OK || errnoAgain != api.OK {
		t.Errorf("P1: Rinse(%q): %d, %d, %d", sheet, errno, errnoOther, errnoAgain)
	}
	if again != first {
		t.Errorf("P1: Rinse(%q) = %q, then %q", sheet, first, again)
	}
	if strings.Count(other, "{") > 0 && !strings.Contains(other, ".r ") {
		t.Errorf("P6: Rinse(%q) = %q: not below the root", sheet, other)
	}
}

func TestP1RinseWithoutLists(t *testing.T) {
	const sheet = "p{color:red;--x:1}@media{p{color:red}}"
	for _, c := range []struct {
		p    api.Policy
		want string
	}{
		{api.Policy{}, ""},
		{api.Policy{Custom: true}, "p{--x:1}"},
		{api.Policy{Properties: []string{"color"}}, "p{color:red}"},
		{api.Policy{AtRules: []string{"media"}}, ""},
		{api.Policy{Properties: []string{"color"}, AtRules: []string{"media"}}, "p{color:red}@media{p{color:red}}"},
	} {
		checkRinsed(t, c.p, rinsedCase{sheet, c.want})
	}
}

// With an error the text is empty, even where something would come of the sheet.
func TestP1RinseErrors(t *testing.T) {
	p := strict()
	p.AtRules = []string{"Media"}
	checkRefused(t, "p{color:red}", p, api.ErrPolicy)
	checkRefused(t, "p{color:red}"+strings.Repeat(" ", api.MaxSheet), strict(), api.ErrLong)
	checkRefused(t, "p{color:red}"+strings.Repeat("[", api.MaxDepth+1), strict(), api.ErrDeep)
}

// roomyPolicy gives a policy whose lists all have spare room, with something in it.
func roomyPolicy(spare string) api.Policy {
	p := lenient()
	for _, list := range []*[]string{&p.Properties, &p.Functions, &p.AtRules} {
		*list = append(make([]string, 0, 40), *list...)
		fill(*list, spare)
	}
	return p
}

func TestP2RinseWritesNothing(t *testing.T) {
	p, want := roomyPolicy("spare"), roomyPolicy("spare")
	for _, sheet := range []string{"", "p{color:red;SPARE:1;--x:spare(1)}@spare{p{color:x}}@media{p{width:calc(1)}}", strings.Repeat("(", 9), strings.Repeat("a", api.MaxSheet+1)} {
		Rinse(sheet, p)
		bad := p
		bad.Root = "R"
		Rinse(sheet, bad)
	}
	if !sameRoom(p.Properties, want.Properties) || !sameRoom(p.Functions, want.Functions) || !sameRoom(p.AtRules, want.AtRules) {
		t.Errorf("P2: the policy is %+v, was %+v", p, want)
	}
}

// What stands in the spare room of a list is none of it, whether or not it may be.
func TestP1RinseSpareRoom(t *testing.T) {
	const sheet = "p{spare:1;color:x;width:spare()}@spare{p{color:x}}"
	for _, spare := range []string{"spare", "NO NAME", ""} {
		checkRinsed(t, roomyPolicy(spare), rinsedCase{sheet, "p{color:x}"})
	}
}

// The order of the names in a list, and names that stand in it twice, are nothing to the answer.
func TestP1RinseOrderOfLists(t *testing.T) {
	p, turned := lenient(), lenient()
	for _, list := range []*[]string{&turned.Properties, &turned.Functions, &turned.AtRules} {
		slices.Reverse(*list)
		*list = append(*list, (*list)[0])
	}
	for _, sheet := range []string{"p{color:calc(1);width:var(--a);a:url('x')}", "@media{p{color:x}}@layer{p{color:y}}@-a{p{color:z}}"} {
		first, _ := Rinse(sheet, p)
		checkRinsed(t, turned, rinsedCase{sheet, first})
	}
}
