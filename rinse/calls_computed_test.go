package rinse

import (
	"strings"
	"testing"

	"rinse/api"
)

// sheetPieces are what the rules of sheets and values speak of, and what they do not.
var sheetPieces = []string{
	"p", "{", "}", ";", ":", "color", "--x", "var(", ")", "(", "[", "]", ",", " ", "!important", "!", "inherit", "@a", "<!--", "-->",
	"1e", "#1", "'", "\"", "\\", "\n", "\x00", "\x80", "url(", "/*", "*", "red",
}

func TestP1ComputedOfAnything(t *testing.T) {
	for _, a := range sheetPieces {
		for _, b := range sheetPieces {
			for _, frame := range []string{"", "p{color:", "p{--x:a;color:var(", "p{--x:", "@a "} {
				checkCalm(t, frame+a+b)
			}
			for _, c := range sheetPieces {
				if _, errno := Computed(family(), []string{"p{--x:" + a + b + c}, 5, "--x"); errno != api.OK {
					t.Errorf("P1: Computed of %q: %d", a+b+c, errno)
				}
			}
		}
	}
}

// checkCalm looks whether Computed answers something, and the same again.
func checkCalm(t *testing.T, sheet string) {
	t.Helper()
	for _, property := range []string{"color", "--x"} {
		text, errno := Computed(family(), []string{sheet}, 5, property)
		if errno != api.OK {
			t.Errorf("P1: Computed(.., %q, ..): %d", sheet, errno)
		}
		if again, errno := Computed(family(), []string{sheet}, 5, property); again != text || errno != api.OK {
			t.Errorf("P1: Computed(.., %q, ..) = %q, then %q, %d", sheet, text, again, errno)
		}
	}
}

func TestP1ComputedAnyByte(t *testing.T) {
	for c := range 256 {
		one := string([]byte{byte(c)})
		for _, frame := range [][2]string{{"", "p{color:a}"}, {"p", "{color:a}"}, {"p{", "color:a}"}, {"p{color", ":a}"}, {"p{color:", "a}"}, {"p{color:var(", "--x,a)}"}, {"p{color:var(--x", ",a)}"}} {
			checkCalm(t, frame[0]+one+frame[1])
		}
		if text, errno := Computed(family(), []string{"p{top:1}"}, 5, one); text != "" || errno != api.OK {
			t.Errorf("P5: Computed(.., %q) = %q, %d", one, text, errno)
		}
	}
}

// chain gives a page in which each element is the parent of the next one.
func chain(elems int) []api.Elem {
	page := []api.Elem{{Parent: -1, Tag: "p"}}
	for len(page) < elems {
		page = append(page, api.Elem{Parent: len(page) - 1, Tag: "p"})
	}
	return page
}

// naming gives sheets in which each custom property names the next one, as often as the pattern does so (`N`).
// The first is --aa.
func naming(pattern string) []string {
	name := func(i int) string { return "--" + string(rune('a'+i/26)) + string(rune('a'+i%26)) }
	var sheets []string
	sheet := "*{"
	for i := 0; len(sheets) < api.MaxSheets; i++ {
		declaration := name(i) + ":" + strings.ReplaceAll(pattern, "N", name(i+1)) + ";"
		if len(sheet)+len(declaration) > api.MaxSheet {
			sheets = append(sheets, sheet)
			sheet = "*{"
		}
		sheet += declaration
	}
	return sheets
}

// Properties that name others several times each could be gone through in very many ways: all the same the call ends soon.
func TestP1ComputedEnds(t *testing.T) {
	page := chain(api.MaxElems)
	last := api.MaxElems - 1
	for _, pattern := range []string{"var(N)", "var(N,var(N))", "var(N)var(N)var(N)", "var(N,var(N,var(N,var(N))))", "var(N,var(--aa))", "inherit"} {
		for _, elem := range []int{0, last} {
			if text, errno := Computed(page, naming(pattern), elem, "--aa"); text != "" || errno != api.OK {
				t.Errorf("P5: of %q %q, %d", pattern, text, errno)
			}
		}
	}
	sheets := naming("var(N,var(N))")
	sheets[0] = "*{--ak:end;" + sheets[0][len("*{"):strings.Index(sheets[0], "--ak:")]
	if text, errno := Computed(page, sheets, last, "--aa"); text != "end" || errno != api.OK {
		t.Errorf("P5: %q, %d", text, errno)
	}
}

func TestP2ComputedWritesNothing(t *testing.T) {
	page, want := roomy(), roomy()
	list := []string{"p{color:red;--x:var(--y,1)}", ".x{COLOR:inherit}", "b{color:var(--x)"}
	sheets := append(make([]string, 0, 8), list...)
	wantSheets := append(make([]string, 0, 8), list...)
	fill(sheets, "b{color:spare}")
	fill(wantSheets, "b{color:spare}")
	for elem := -1; elem <= len(page); elem++ {
		for _, property := range []string{"color", "COLOR", "--x", "top"} {
			Computed(page, sheets, elem, property)
			Computed(page, sheets[:cap(sheets)], elem, property)
		}
	}
	if !sameRoom(sheets, wantSheets) {
		t.Errorf("P2: the sheets are %q, were %q", sheets[:cap(sheets)], wantSheets[:cap(wantSheets)])
	}
	checkSamePage(t, page, want)
}

// Nothing hangs on what was called before, nor on the spare room of what is handed in.
func TestP1ComputedHangsOnNothingElse(t *testing.T) {
	sheets := append(make([]string, 0, 4), ".box{color:1}")
	fill(sheets, "p{color:spare}")
	for range 3 {
		checkComputed(t, 5, "color", "1", sheets...)
		checkComputed(t, 5, "color", "2", ".box{color:2}")
		checkComputed(t, 5, "color", "", strings.Repeat(" ", api.MaxSheet))
		Computed(chain(3), []string{"p{color:3}"}, 2, "color")
	}
}
