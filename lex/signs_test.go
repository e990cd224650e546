package lex_test

import (
	"strings"
	"testing"

	"gantline/lex"
)

// signs are the chapter's.
func signs() []string {
	return strings.Fields("( ) { } [ ] , ; . = == != < <= > >= + - * / % & | ^ << >> ! && || :")
}

// longest is the longest sign with which a text begins.
func longest(text string) string {
	best := ""
	for _, s := range signs() {
		if strings.HasPrefix(text, s) && len(s) > len(best) {
			best = s
		}
	}
	return best
}

// signsOf cuts a text of signs alone, which may end with a remark.
func signsOf(text string) []lex.Word {
	var list []lex.Word
	for at := 0; at < len(text) && !strings.HasPrefix(text[at:], "//"); {
		s := longest(text[at:])
		list = append(list, lex.Word{Kind: sign, Text: s, At: at})
		at += len(s)
	}
	return list
}

// P19.1: each sign alone, and between others.
func TestSigns(t *testing.T) {
	if len(signs()) != 30 {
		t.Fatalf("%d signs", len(signs()))
	}
	for _, s := range signs() {
		wantOne(t, sign, s)
		wantWords(t, "a"+s+"b", lex.Word{Kind: name, Text: "a"}, lex.Word{Kind: sign, Text: s, At: 1}, lex.Word{Kind: name, Text: "b", At: 1 + len(s)})
		wantWords(t, "1"+s+"2", lex.Word{Kind: number, Text: "1"}, lex.Word{Kind: sign, Text: s, At: 1}, lex.Word{Kind: number, Text: "2", At: 1 + len(s)})
	}
	for _, s := range []string{"!", "&", "|", "<", ">", "=", "/", ":", "."} {
		wantOne(t, sign, s)
	}
}

// P19.1: each two and each three signs without a blank between: the longest that fits, from the left.
func TestSignsTogether(t *testing.T) {
	for _, a := range signs() {
		for _, b := range signs() {
			wantWords(t, a+b, signsOf(a+b)...)
			wantWords(t, a+" "+b, lex.Word{Kind: sign, Text: a}, lex.Word{Kind: sign, Text: b, At: len(a) + 1})
			for _, c := range signs() {
				wantWords(t, a+b+c, signsOf(a+b+c)...)
			}
		}
	}
}

// P19.1: where several ways to cut are thinkable.
func TestLongestFits(t *testing.T) {
	for text, want := range map[string]string{
		"===": "== =", "====": "== ==", "!==": "!= =", "!!=": "! !=", "=!=": "= !=", "==!": "== !", "<<<": "<< <", "<<=": "<< =", "<=<": "<= <", "<==": "<= =", "=<=": "= <=", "<<<=": "<< <=",
		">>>": ">> >", ">>=": ">> =", ">==": ">= =", "=>": "= >", "=<": "= <", "><": "> <", "<>": "< >", "<-": "< -", "&&&": "&& &", "&&&&": "&& &&", "&|": "& |", "|&": "| &", "|||": "|| |", "&=": "& =", "|=": "| =",
		":=": ": =", "+=": "+ =", "++": "+ +", "--": "- -", "**": "* *", "^=": "^ =", "!!": "! !", "...": ". . .", "::": ": :", ";;": "; ;", "[]": "[ ]", "=//=": "=", "<//": "<", "!//": "!", "&/&": "& / &", "</=": "< / =",
	} {
		var list []lex.Word
		at := 0
		for _, s := range strings.Fields(want) {
			list = append(list, lex.Word{Kind: sign, Text: s, At: at})
			at += len(s)
		}
		wantWords(t, text, list...)
	}
}
