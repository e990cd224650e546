package lex_test

import (
	"strings"
	"testing"

	"gantline/lex"
)

const (
	letters = "abcdefghijklmnopqrstuvwxyzABCDEFGHIJKLMNOPQRSTUVWXYZ_"
	digits  = "0123456789"
)

// keptNames are the chapter's.
func keptNames() []string {
	return strings.Fields("struct var func int bool chan if else while return print go send close select case default recv true false nil new make len")
}

// others are names that are not kept, of which many look like such as are.
func others() []string {
	list := []string{"x", "_", "for", "main", "string", "in", "cap", "type", "range", "fall", "iff", "ifelse", "go1", "newnew", "n1l", "int64", "_if", "__", "lEn", "breaK"}
	for _, k := range keptNames() {
		list = append(list, k+"s", k+"_", k+"0", k+k, "_"+k, "a"+k, k[1:], k[:len(k)-1], strings.ToUpper(k), strings.ToUpper(k[:1])+k[1:], k[:len(k)-1]+strings.ToUpper(k[len(k)-1:]))
	}
	return list
}

// wantOne wants a text to be one word of a kind, wherever it stands.
func wantOne(t *testing.T, kind int, text string) {
	t.Helper()
	wantWords(t, text, lex.Word{Kind: kind, Text: text})
	wantWords(t, "\n "+text+" ", lex.Word{Kind: kind, Text: text, At: 2})
	wantWords(t, "("+text+")", lex.Word{Kind: sign, Text: "("}, lex.Word{Kind: kind, Text: text, At: 1}, lex.Word{Kind: sign, Text: ")", At: 1 + len(text)})
}

// P19.1: names of one byte and of two.
func TestShortNames(t *testing.T) {
	wantOne(t, name, "_")
	for _, c := range letters {
		wantOne(t, name, string(c))
		for _, d := range letters + digits {
			if text := string(c) + string(d); text != "if" && text != "go" {
				wantOne(t, name, text)
			}
		}
	}
}

// P19.1: names of all sorts of bytes, up to 64.
func TestNames(t *testing.T) {
	wantOne(t, name, letters)
	wantOne(t, name, "_"+digits)
	wantOne(t, name, "___")
	wantOne(t, name, "a1_B")
	for length := 1; length <= 64; length++ {
		wantOne(t, name, strings.Repeat("n", length))
		wantOne(t, name, "_"+strings.Repeat("9", length-1))
		wantOne(t, name, strings.Repeat("_", length))
	}
}

// P19.1: a name of 65 bytes, or more, is a fault where it begins.
func TestTooLong(t *testing.T) {
	for _, length := range []int{65, 66, 127, 128, 129, 320, 8000} {
		for _, text := range []string{strings.Repeat("n", length), "_" + strings.Repeat("0", length-1), "if" + strings.Repeat("Z", length-2)} {
			wantFault(t, text, 0)
			wantFault(t, "a "+text, 2)
			wantFault(t, "7"+text, 1)
			wantFault(t, "="+text+"=", 1)
			wantFault(t, text+"#", 0)
			wantFault(t, "// "+text+"\n\n"+text, 5+length)
		}
	}
	long := strings.Repeat("n", 64)
	wantWords(t, long+" "+long, lex.Word{Kind: name, Text: long}, lex.Word{Kind: name, Text: long, At: 65})
}

// P19.1: what begins with a digit is a number, and a name may stand right behind it.
func TestBehindDigits(t *testing.T) {
	for _, c := range []struct{ digits, name string }{{"1", "a"}, {"12", "ab"}, {"0", "_"}, {"0", "x1"}, {"7", "e7"}, {"007", "_007"}, {"4611686018427387903", strings.Repeat("n", 64)}, {"1", "_0"}} {
		wantWords(t, c.digits+c.name, lex.Word{Kind: number, Text: c.digits}, lex.Word{Kind: name, Text: c.name, At: len(c.digits)})
	}
	wantWords(t, "1if2", lex.Word{Kind: number, Text: "1"}, lex.Word{Kind: name, Text: "if2", At: 1})
	wantWords(t, "1if", lex.Word{Kind: number, Text: "1"}, lex.Word{Kind: kept, Text: "if", At: 1})
}

// P19.1: letters are a to z and A to Z alone.
func TestOtherLetters(t *testing.T) {
	for c := 128; c < 256; c++ {
		b := string([]byte{byte(c)})
		wantFault(t, b+"a", 0)
		wantFault(t, "a"+b, 1)
		wantFault(t, "if"+b, 2)
		wantFault(t, "_"+b+"_", 1)
	}
	for _, r := range []string{"é", "Ä", "ß", "\u017f", "\u212a", "\u0300", "\u03b1", "你", "\u0661", "\uff19", "\uff21", "\U0001d4b6"} {
		wantFault(t, r, 0)
		wantFault(t, "name"+r, 4)
		wantFault(t, "12"+r, 2)
		wantFault(t, r+"name", 0)
	}
}

// P19.1: a kept name is a word of its own kind; one that is not just one of these is a name.
func TestKeptWords(t *testing.T) {
	if len(keptNames()) != 24 {
		t.Fatalf("%d kept names", len(keptNames()))
	}
	for _, k := range keptNames() {
		wantOne(t, kept, k)
	}
	for _, text := range others() {
		wantOne(t, name, text)
	}
}

// Kept: of each kept name, and of no other text.
func TestKept(t *testing.T) {
	for _, k := range keptNames() {
		if !lex.Kept(k) {
			t.Errorf("Kept(%s): false", k)
		}
		for _, text := range []string{k + " ", " " + k, k + "\n", k + "\x00", k + ";", k + "é", k[:1] + " " + k[1:], "//" + k, "\"" + k + "\"", k + " " + k} {
			if lex.Kept(text) {
				t.Errorf("Kept(%q): true", text)
			}
		}
	}
	for _, text := range append(others(), "", " ", "0", "12", "=", "==", "//", "#", "é", "\x00", "\xff", strings.Repeat("n", 64), strings.Repeat("n", 65), strings.Join(keptNames(), " "), strings.Repeat("if", 20000)) {
		if lex.Kept(text) {
			t.Errorf("Kept(%s): true", short(text))
		}
	}
}
