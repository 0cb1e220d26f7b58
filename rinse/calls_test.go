package rinse

import (
	"runtime"
	"slices"
	"strings"
	"testing"

	"rinse/api"
)

// pieces are what the scanner's rules speak of: each of them in front of and behind each other one.
var pieces = []string{
	"\\", "\n", "\r", "\f", "\x00", " ", "\"", "'", "#", "+", "-", ".", "7", "e", "%", "<!--", "-->", "@",
	"url(", "(", ")", "/*", "*/", "a", "g", "_", "\x01", "\x7f", "\x80", "{", "}", ";", "!", ">",
}

// eachSheet hands on every row of three pieces.
func eachSheet(use func(sheet string)) {
	for _, a := range pieces {
		for _, b := range pieces {
			for _, c := range pieces {
				use(a + b + c)
			}
		}
	}
}

func TestP1TokensOfAnything(t *testing.T) {
	eachSheet(func(sheet string) {
		tokens, errno := Tokens(sheet)
		if errno != api.OK || len(tokens) > len(sheet) {
			t.Errorf("P1: Tokens(%q): %d tokens, %d", sheet, len(tokens), errno)
		}
		for _, token := range tokens {
			checkParts(t, sheet, token)
		}
	})
}

// checkParts looks whether a token has a word and a unit where its kind has them.
func checkParts(t *testing.T, sheet string, token api.Token) {
	t.Helper()
	empty, full := false, false
	switch token.Kind {
	case api.Blank, api.BadText, api.BadLink, api.Open, api.Close:
		empty = true
	case api.Text, api.Link:
		// These have any word.
	default:
		full = true
	}
	if empty && token.Word != "" || full && token.Word == "" {
		t.Errorf("P3: Tokens(%q): the word of %+v", sheet, token)
	}
	if (token.Unit != "") != (token.Kind == api.Dimension) {
		t.Errorf("P3: Tokens(%q): the unit of %+v", sheet, token)
	}
}

func TestP1AnswersHangOnNothingElse(t *testing.T) {
	sheets := []string{"", "a{x:1.5px}", "url(a b", "\"a\n", strings.Repeat("a", api.MaxSheet+1), "\\"}
	first := make([][]api.Token, len(sheets))
	for i, sheet := range sheets {
		first[i], _ = Tokens(sheet)
	}
	for i, sheet := range slices.Backward(sheets) {
		if again, _ := Tokens(sheet); !slices.Equal(again, first[i]) {
			t.Errorf("P1: Tokens(%q) = %+v, then %+v", sheet, first[i], again)
		}
	}
}

func TestP1NothingGoesOn(t *testing.T) {
	before := runtime.NumGoroutine()
	for range 100 {
		Tokens("a{b:c}")
		Tokens(strings.Repeat("a", api.MaxSheet+1))
		Matches("p:not(.x) > b", family(), 5)
		Matches("p,", family(), 5)
		Computed(family(), []string{"p{--x:1;top:var(--x)}"}, 5, "top")
		Computed(family(), []string{strings.Repeat("(", api.MaxSheet)}, 5, "top")
		Rinse("p{color:red}", strict())
		Rinse(strings.Repeat("(", api.MaxSheet), strict())
	}
	if after := runtime.NumGoroutine(); after > before {
		t.Errorf("P1: %d goroutines ahead, %d behind", before, after)
	}
}

func TestP1NoListsAtAll(t *testing.T) {
	for _, elem := range []int{-1 << 63, -1, 0, 1, 1<<63 - 1} {
		if matches, errno := Matches("p", nil, elem); matches || errno != api.ErrPage {
			t.Errorf("P1: Matches(.., nil, %d) = %v, %d", elem, matches, errno)
		}
		if text, errno := Computed(nil, nil, elem, ""); text != "" || errno != api.ErrPage {
			t.Errorf("P1: Computed(nil, nil, %d, ..) = %q, %d", elem, text, errno)
		}
	}
	if text, errno := Computed(family(), nil, 5, "color"); text != "" || errno != api.OK {
		t.Errorf("P1: Computed(.., nil, 5, ..) = %q, %d", text, errno)
	}
	if text, errno := Rinse("p{color:red}", api.Policy{}); text != "" || errno != api.OK {
		t.Errorf("P1: Rinse of a policy without lists = %q, %d", text, errno)
	}
}

// selectorPieces are what the rules of selectors speak of, and what they do not.
var selectorPieces = []string{
	"p", "*", ".x", "#a", ".", "#", ":", ",", " ", ">", "+", "~", "[k]", "[k", "=", "'v'", "]", ")", "(", "{",
	":root", ":empty", ":not(", ":is(", ":nth-child(", "2", "odd", "1000", "/**/", "\\", "\x80", "\x00", "\n", "\"", "@a", "<!--", "url(",
}

func TestP1MatchesOfAnything(t *testing.T) {
	page := family()
	var all []string
	for _, a := range selectorPieces {
		for _, b := range selectorPieces {
			for _, c := range selectorPieces {
				all = append(all, a+b+c)
			}
		}
	}
	for _, s := range all {
		for _, elem := range []int{0, 3, 8} {
			matches, errno := Matches(s, page, elem)
			if errno != api.OK && (matches || errno != api.ErrSelector) {
				t.Errorf("P1: Matches(%q, .., %d) = %v, %d", s, elem, matches, errno)
			}
			if again, errnoAgain := Matches(s, page, elem); again != matches || errnoAgain != errno {
				t.Errorf("P1: Matches(%q, .., %d) = %v, %d, then %v, %d", s, elem, matches, errno, again, errnoAgain)
			}
		}
	}
}

func TestP1MatchesAnyByte(t *testing.T) {
	for c := range 256 {
		for _, frame := range [][2]string{{"", ""}, {"p", ""}, {"p", "p"}, {"[k", "=v]"}, {":not(", ")"}, {":", "root"}, {"p,", ",b"}} {
			s := frame[0] + string([]byte{byte(c)}) + frame[1]
			if matches, errno := Matches(s, family(), 3); errno != api.OK && (matches || errno != api.ErrSelector) {
				t.Errorf("P1: Matches(%q) = %v, %d", s, matches, errno)
			}
		}
	}
}

// A chain of elements can stand for a row of compounds in very many ways: all the same the call ends soon.
func TestP1MatchesEnds(t *testing.T) {
	page := []api.Elem{{Parent: -1, Tag: "p"}}
	for len(page) < api.MaxElems {
		page = append(page, api.Elem{Parent: len(page) - 1, Tag: "p"})
	}
	row := func(compounds int) string { return strings.TrimSpace(strings.Repeat("p ", compounds)) }
	last := api.MaxElems - 1
	for _, c := range []struct {
		selector string
		want     bool
	}{
		{row(api.MaxElems), true},
		{row(api.MaxElems + 1), false},
		{row(api.MaxTest / 2), false},
		{row(api.MaxElems-1) + " b", false},
		{"b " + row(api.MaxElems-1), false},
		{"p:not(p " + row(api.MaxElems) + ")", true},
	} {
		if matches, errno := Matches(c.selector, page, last); matches != c.want || errno != api.OK {
			t.Errorf("P4: Matches(%q) = %v, %d", c.selector, matches, errno)
		}
	}
}

// roomy gives a page whose lists all have spare room, with something in it.
func roomy() []api.Elem {
	page := append(make([]api.Elem, 0, 2*api.MaxElems), family()...)
	for i := range page {
		classes := append(make([]string, 0, 8), page[i].Classes...)
		attrs := append(make([]api.Attr, 0, 8), page[i].Attrs...)
		fill(classes, "spare")
		fill(attrs, api.Attr{Name: "spare", Value: "spare"})
		page[i].Classes, page[i].Attrs = classes, attrs
	}
	fill(page, api.Elem{Parent: 7, Tag: "spare"})
	return page
}

func fill[T any](list []T, with T) {
	for i := len(list); i < cap(list); i++ {
		list[:cap(list)][i] = with
	}
}

func TestP2MatchesWritesNothing(t *testing.T) {
	page, want := roomy(), roomy()
	for _, s := range []string{"p", ".x", "[k~=w]", "p:not(.y, [k]) ~ b > p", ":nth-child(odd):last-child", "p,", strings.Repeat("p", api.MaxTest+1)} {
		for elem := -1; elem <= len(page); elem++ {
			Matches(s, page, elem)
		}
	}
	checkSamePage(t, page, want)
}

// checkSamePage compares two pages with all their spare room.
func checkSamePage(t *testing.T, page, want []api.Elem) {
	t.Helper()
	page, want = page[:cap(page)], want[:cap(want)]
	for i := range page {
		if page[i].Parent != want[i].Parent || page[i].Tag != want[i].Tag || page[i].Id != want[i].Id {
			t.Errorf("P2: element %d is %+v, was %+v", i, page[i], want[i])
		}
		if !sameRoom(page[i].Classes, want[i].Classes) || !sameRoom(page[i].Attrs, want[i].Attrs) {
			t.Errorf("P2: the lists of element %d are %+v, were %+v", i, page[i], want[i])
		}
	}
}

// sameRoom compares two lists with their spare room.
func sameRoom[T comparable](a, b []T) bool {
	return len(a) == len(b) && slices.Equal(a[:cap(a)], b[:cap(b)])
}

func TestP2TokensAreNewMemory(t *testing.T) {
	const sheet = "a{b:c} 1px url(d) 'e'"
	want, _ := Tokens(sheet)
	want = slices.Clone(want)
	spoiled, _ := Tokens(sheet)
	kept, _ := Tokens(sheet)
	spoiled = spoiled[:cap(spoiled)]
	for i := range spoiled {
		spoiled[i] = api.Token{Kind: -1, Word: "spoiled", Unit: "spoiled"}
	}
	again, _ := Tokens(sheet)
	if !slices.Equal(kept, want) || !slices.Equal(again, want) {
		t.Errorf("P2: %+v and %+v, want %+v", kept, again, want)
	}
	for _, token := range kept[len(kept):cap(kept)] {
		if token.Word == "spoiled" {
			t.Error("P2: two answers share their spare room")
		}
	}
}
