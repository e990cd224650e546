package lex_test

import (
	"strings"
	"testing"

	"gantline/api"
	"gantline/lex"
)

// What a byte may be.
const (
	isBlank = " \t\n\r"
	isSign  = "(){}[],;.=<>+-*/%&|^!:"
	isNone  = "#$@?~`'\"\\" // some of those at which no word begins
)

// wordOf is the word that a byte is; ok is false, if it is none.
func wordOf(c byte, at int) (w lex.Word, ok bool) {
	text := string([]byte{c})
	switch {
	case strings.Contains(letters, text):
		return lex.Word{Kind: name, Text: text, At: at}, true
	case strings.Contains(digits, text):
		return lex.Word{Kind: number, Text: text, At: at}, true
	case strings.Contains(isSign, text):
		return lex.Word{Kind: sign, Text: text, At: at}, true
	}
	return lex.Word{}, false
}

// wantByte wants a byte that stands behind a text, the words of which are told, to be a word of its own, or a blank, or a fault.
func wantByte(t *testing.T, ahead string, c byte, words ...lex.Word) {
	t.Helper()
	text := ahead + string([]byte{c})
	w, ok := wordOf(c, len(ahead))
	switch {
	case ok:
		wantWords(t, text, append(words, w)...)
	case strings.Contains(isBlank, string([]byte{c})):
		wantWords(t, text, words...)
	default:
		wantFault(t, text, len(ahead))
		wantFault(t, text+" b", len(ahead))
	}
}

// wantJoined wants a letter, a digit or _ to go on with what stands right ahead of it, but for a letter or _ behind a number.
func wantJoined(t *testing.T, w lex.Word) {
	t.Helper()
	wantWords(t, "word"+w.Text, lex.Word{Kind: name, Text: "word" + w.Text})
	wantWords(t, "if"+w.Text, lex.Word{Kind: name, Text: "if" + w.Text})
	if w.Kind == number {
		wantWords(t, "12"+w.Text, lex.Word{Kind: number, Text: "12" + w.Text})
		return
	}
	wantWords(t, "12"+w.Text, lex.Word{Kind: number, Text: "12"}, lex.Word{Kind: name, Text: w.Text, At: 2})
}

// P19.1: each byte alone, behind a blank, and behind a word of each kind.
func TestEachByte(t *testing.T) {
	faults := 0
	for c := range 256 {
		b := byte(c)
		wantByte(t, "", b)
		wantByte(t, " \n", b)
		wantByte(t, "// x\n", b)
		wantByte(t, "word ", b, lex.Word{Kind: name, Text: "word"})
		wantByte(t, ";", b, lex.Word{Kind: sign, Text: ";"})
		w, ok := wordOf(b, 0)
		if !ok || w.Kind == sign {
			wantByte(t, "word", b, lex.Word{Kind: name, Text: "word"})
			wantByte(t, "if", b, lex.Word{Kind: kept, Text: "if"})
			wantByte(t, "12", b, lex.Word{Kind: number, Text: "12"})
		} else {
			wantJoined(t, w)
		}
		if _, _, e := lex.Cut(string([]byte{b})); e != api.OK {
			faults++
		}
	}
	// 53 begin a name, 10 a number, 22 a sign, 4 are blanks.
	if faults != 256-53-10-22-4 {
		t.Errorf("%d bytes are faults", faults)
	}
}

// P19.1: the fault is at the byte itself, wherever it stands.
func TestWhere(t *testing.T) {
	for _, c := range isNone {
		for at := range 50 {
			wantFault(t, strings.Repeat(" ", at)+string(c)+" a", at)
			wantFault(t, strings.Repeat("a", at)+string(c)+"a", at)
			wantFault(t, strings.Repeat("=", at)+string(c)+"=", at)
			wantFault(t, strings.Repeat("0", at)+string(c)+string(c), at)
			wantFault(t, strings.Repeat("\n", at)+"//"+string(c)+"\n"+string(c), at+4)
		}
	}
}
