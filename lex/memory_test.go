package lex_test

import (
	"slices"
	"strings"
	"testing"
	"unsafe"

	"gantline/api"
	"gantline/lex"
)

// texts are of all sorts, such as are refused too.
func texts() []string {
	return []string{"", " ", "// a", "x=12", "func main() { print 1 + 2; }", "a b c", "a b c d", "1 2 3 4 5", "; ; ; ; ; ; ;", strings.Repeat("if a ", 1000), "a #", "#", strings.Repeat("n", 65), strings.Repeat(" ", most+1)}
}

// R4: what is answered is new memory, spare room too; R5: asked again it says the same.
func TestNewMemory(t *testing.T) {
	for _, text := range texts() {
		first, at, e := lex.Cut(text)
		want := slices.Clone(first)
		second, _, _ := lex.Cut(text)
		spare := slices.Clone(second[:cap(second)])
		spoilt := first[:cap(first)]
		for n := range spoilt {
			spoilt[n] = lex.Word{Kind: 99, Text: "spoilt", At: -1}
		}
		third, again, f := lex.Cut(text)
		if !slices.Equal(second, want) || !slices.Equal(second[:cap(second)], spare) || !slices.Equal(third, want) || again != at || f != e {
			t.Errorf("Cut(%s): %s, %s, want %s", short(text), few(second), few(third), few(want))
		}
	}
}

// R4: the text is not kept: what becomes of its bytes is not seen in the words.
func TestTextNotKept(t *testing.T) {
	for _, text := range texts() {
		want, _, _ := lex.Cut(text)
		b := []byte(text)
		words, _, _ := lex.Cut(unsafe.String(unsafe.SliceData(b), len(b)))
		for n := range b {
			b[n] = '?'
		}
		if !slices.Equal(words, want) {
			t.Errorf("Cut(%s): %s, want %s", short(text), few(words), few(want))
		}
	}
}

// R5: what a call answers hangs on its text alone, not on those that were cut ahead of it.
func TestHangsOnTextAlone(t *testing.T) {
	for _, before := range texts() {
		lex.Cut(before)
		lex.Kept(before)
		wantWords(t, "if x", lex.Word{Kind: kept, Text: "if"}, lex.Word{Kind: name, Text: "x", At: 3})
		wantFault(t, "if #", 3)
		wantRefused(t, strings.Repeat("a ", most), 0, api.ELIMIT)
	}
}
