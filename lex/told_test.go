package lex_test

import (
	"slices"
	"strconv"
	"testing"

	"gantline/api"
	"gantline/lex"
)

// The kinds, as the chapter numbers them.
const (
	end = iota
	name
	kept
	number
	sign
)

// short is a text, or how it begins, as it can be told.
func short(text string) string {
	return strconv.Quote(text[:min(len(text), 70)]) + " of " + strconv.Itoa(len(text)) + " bytes"
}

// few are the words with which a list begins, as they can be told.
func few(words []lex.Word) string {
	told := strconv.Itoa(len(words)) + " words"
	for _, w := range words[:min(len(words), 12)] {
		told += " " + strconv.Itoa(w.Kind) + strconv.Quote(w.Text) + "@" + strconv.Itoa(w.At)
	}
	return told
}

// wantWords wants a text to be cut into these words, and the last one behind them.
func wantWords(t *testing.T, text string, want ...lex.Word) {
	t.Helper()
	want = append(slices.Clone(want), lex.Word{Kind: end, Text: "", At: len(text)})
	words, at, e := lex.Cut(text)
	if !slices.Equal(words, want) || at != 0 || e != api.OK {
		t.Errorf("Cut(%s): %s, %d, %d, want %s", short(text), few(words), at, e, few(want))
	}
}

// wantRefused wants an error at a place, and no words.
func wantRefused(t *testing.T, text string, place int, want api.Errno) {
	t.Helper()
	words, at, e := lex.Cut(text)
	if len(words) != 0 || at != place || e != want {
		t.Errorf("Cut(%s): %s, %d, %d, want %d at %d", short(text), few(words), at, e, want, place)
	}
}

// wantFault wants a text that has a fault at a place.
func wantFault(t *testing.T, text string, place int) {
	t.Helper()
	wantRefused(t, text, place, api.ESYNTAX)
}

// The chapter's examples, and what it names of the whole.
func TestExamples(t *testing.T) {
	wantWords(t, "x=12", lex.Word{Kind: name, Text: "x", At: 0}, lex.Word{Kind: sign, Text: "=", At: 1}, lex.Word{Kind: number, Text: "12", At: 2})
	wantFault(t, "#", 0)
}

// P19.1: a text of words of all kinds.
func TestWhole(t *testing.T) {
	wantWords(t, "func f(a int) {\n\tx = a<<3; // three\n}",
		lex.Word{Kind: kept, Text: "func", At: 0}, lex.Word{Kind: name, Text: "f", At: 5}, lex.Word{Kind: sign, Text: "(", At: 6},
		lex.Word{Kind: name, Text: "a", At: 7}, lex.Word{Kind: kept, Text: "int", At: 9}, lex.Word{Kind: sign, Text: ")", At: 12},
		lex.Word{Kind: sign, Text: "{", At: 14}, lex.Word{Kind: name, Text: "x", At: 17}, lex.Word{Kind: sign, Text: "=", At: 19},
		lex.Word{Kind: name, Text: "a", At: 21}, lex.Word{Kind: sign, Text: "<<", At: 22}, lex.Word{Kind: number, Text: "3", At: 24},
		lex.Word{Kind: sign, Text: ";", At: 25}, lex.Word{Kind: sign, Text: "}", At: 36})
}

// P19.1: of several faults it is the first one in the text, of whatever sort.
func TestFirstFault(t *testing.T) {
	long, great := string(slices.Repeat([]byte("n"), 65)), "4611686018427387904"
	for _, one := range []string{"#", long, great} {
		for _, other := range []string{"$", long, great} {
			wantFault(t, one+" "+other, 0)
			wantFault(t, "x = 7; "+one+" "+other+" ~", 7)
		}
	}
}
