package lex_test

import (
	"strings"
	"testing"

	"gantline/lex"
)

// P19.1: of nothing, and of blanks alone, there is the last word alone.
func TestBlanks(t *testing.T) {
	for _, text := range []string{"", " ", "\t", "\n", "\r", "\r\n", " \t\n\r", "\r\n\t ", "\n\n\n", strings.Repeat(" \n\t\r", 1000)} {
		wantWords(t, text)
	}
}

// P19.1: no other byte is a blank.
func TestNoBlanks(t *testing.T) {
	for _, c := range []string{"\x00", "\x01", "\x08", "\x0b", "\x0c", "\x0e", "\x1c", "\x1f", "\x7f", "\x85", "\xa0", "\u00a0", "\u2003", "\u2028", "\ufeff"} {
		wantFault(t, c, 0)
		wantFault(t, " \t\n\r"+c, 4)
		wantFault(t, c+" \t\n\r", 0)
		wantFault(t, "a"+c+"b", 1)
	}
}

// P19.1: each blank lies between words.
func TestBetween(t *testing.T) {
	for _, gap := range []string{" ", "\t", "\n", "\r", "\r\n", "  ", "//\n", "// b\n", " // b\r\n ", "//\n//\n", "//=//=\n\t"} {
		wantWords(t, "a"+gap+"b", lex.Word{Kind: name, Text: "a"}, lex.Word{Kind: name, Text: "b", At: 1 + len(gap)})
		wantWords(t, "1"+gap+"2", lex.Word{Kind: number, Text: "1"}, lex.Word{Kind: number, Text: "2", At: 1 + len(gap)})
		wantWords(t, "="+gap+"=", lex.Word{Kind: sign, Text: "="}, lex.Word{Kind: sign, Text: "=", At: 1 + len(gap)})
		wantWords(t, gap+"a"+gap, lex.Word{Kind: name, Text: "a", At: len(gap)})
	}
}

// P19.1: a remark goes up to the line's end, whatever is in it.
func TestRemarks(t *testing.T) {
	every := make([]byte, 256)
	for c := range every {
		every[c] = byte(c)
	}
	every['\n'] = ' '
	long := strings.Repeat("n", 65)
	for _, inside := range []string{"", "/", "//", "/////", " a", "a", "12", "if", "#", "\"", "\x00", "\x0b", "\xff", "é", "\r", "\r# ", long, "4611686018427387904", " // #", "*", "/*", string(every)} {
		text := "//" + inside
		wantWords(t, text)
		wantWords(t, text+"\n")
		wantWords(t, text+"\r\n")
		wantWords(t, text+"\n"+text)
		wantWords(t, text+"\n\n"+text+"\n")
		wantWords(t, "a"+text+"\nb", lex.Word{Kind: name, Text: "a"}, lex.Word{Kind: name, Text: "b", At: len(text) + 2})
		wantWords(t, "7"+text, lex.Word{Kind: number, Text: "7"})
		wantWords(t, "<"+text, lex.Word{Kind: sign, Text: "<"})
		wantFault(t, text+"\n#", len(text)+1)
		wantFault(t, "#"+text, 0)
	}
}

// P19.1: one slash is a sign, two begin a remark.
func TestSlashes(t *testing.T) {
	slash := func(at int) lex.Word { return lex.Word{Kind: sign, Text: "/", At: at} }
	wantWords(t, "/", slash(0))
	wantWords(t, "/\n", slash(0))
	wantWords(t, "/ /", slash(0), slash(2))
	wantWords(t, "/\n/", slash(0), slash(2))
	wantWords(t, "/\r/", slash(0), slash(2))
	wantWords(t, "//")
	wantWords(t, "///")
	wantWords(t, "////")
	wantWords(t, "//\n/", slash(3))
	wantWords(t, "///\n/", slash(4))
	wantWords(t, "/ //", slash(0))
	wantWords(t, "// /")
	wantWords(t, "/a", slash(0), lex.Word{Kind: name, Text: "a", At: 1})
	wantWords(t, "/*", slash(0), lex.Word{Kind: sign, Text: "*", At: 1})
	wantWords(t, "*/", lex.Word{Kind: sign, Text: "*"}, slash(1))
	wantWords(t, "/=", slash(0), lex.Word{Kind: sign, Text: "=", At: 1})
	wantFault(t, "/\\", 1)
}
