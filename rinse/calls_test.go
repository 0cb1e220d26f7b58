package rinse

import (
	"runtime"
	"slices"
	"strings"
	"testing"

	"rinse/api"
)

// pieces are what the scanner's rules speak of: each of them in front of and behind each other one.
var pieces = []string{
	"\\", "\n", "\r", "\f", "\x00", " ", "\"", "'", "#", "+", "-", ".", "7", "e", "%", "<!--", "-->", "@",
	"url(", "(", ")", "/*", "*/", "a", "g", "_", "\x01", "\x7f", "\x80", "{", "}", ";", "!", ">",
}

// eachSheet hands on every row of three pieces.
func eachSheet(use func(sheet string)) {
	for _, a := range pieces {
		for _, b := range pieces {
			for _, c := range pieces {
				use(a + b + c)
			}
		}
	}
}

func TestP1TokensOfAnything(t *testing.T) {
	eachSheet(func(sheet string) {
		tokens, errno := Tokens(sheet)
		if errno != api.OK || len(tokens) > len(sheet) {
			t.Errorf("P1: Tokens(%q): %d tokens, %d", sheet, len(tokens), errno)
		}
		for _, token := range tokens {
			checkParts(t, sheet, token)
		}
	})
}

// checkParts looks whether a token has a word and a unit where its kind has them.
func checkParts(t *testing.T, sheet string, token api.Token) {
	t.Helper()
	empty, full := false, false
	switch token.Kind {
	case api.Blank, api.BadText, api.BadLink, api.Open, api.Close:
		empty = true
	case api.Text, api.Link:
		// These have any word.
	default:
		full = true
	}
	if empty && token.Word != "" || full && token.Word == "" {
		t.Errorf("P3: Tokens(%q): the word of %+v", sheet, token)
	}
	if (token.Unit != "") != (token.Kind == api.Dimension) {
		t.Errorf("P3: Tokens(%q): the unit of %+v", sheet, token)
	}
}

func TestP1AnswersHangOnNothingElse(t *testing.T) {
	sheets := []string{"", "a{x:1.5px}", "url(a b", "\"a\n", strings.Repeat("a", api.MaxSheet+1), "\\"}
	first := make([][]api.Token, len(sheets))
	for i, sheet := range sheets {
		first[i], _ = Tokens(sheet)
	}
	for i, sheet := range slices.Backward(sheets) {
		if again, _ := Tokens(sheet); !slices.Equal(again, first[i]) {
			t.Errorf("P1: Tokens(%q) = %+v, then %+v", sheet, first[i], again)
		}
	}
}

func TestP1NothingGoesOn(t *testing.T) {
	before := runtime.NumGoroutine()
	for range 100 {
		Tokens("a{b:c}")
		Tokens(strings.Repeat("a", api.MaxSheet+1))
	}
	if after := runtime.NumGoroutine(); after > before {
		t.Errorf("P1: %d goroutines ahead, %d behind", before, after)
	}
}

func TestP1NoListsAtAll(t *testing.T) {
	for _, elem := range []int{-1 << 63, -1, 0, 1, 1<<63 - 1} {
		Matches("", nil, elem)
		Computed(nil, nil, elem, "")
	}
	Rinse("", api.Policy{})
}

func TestP2TokensAreNewMemory(t *testing.T) {
	const sheet = "a{b:c} 1px url(d) 'e'"
	want, _ := Tokens(sheet)
	want = slices.Clone(want)
	spoiled, _ := Tokens(sheet)
	kept, _ := Tokens(sheet)
	spoiled = spoiled[:cap(spoiled)]
	for i := range spoiled {
		spoiled[i] = api.Token{Kind: -1, Word: "spoiled", Unit: "spoiled"}
	}
	again, _ := Tokens(sheet)
	if !slices.Equal(kept, want) || !slices.Equal(again, want) {
		t.Errorf("P2: %+v and %+v, want %+v", kept, again, want)
	}
	for _, token := range kept[len(kept):cap(kept)] {
		if token.Word == "spoiled" {
			t.Error("P2: two answers share their spare room")
		}
	}
}
