package lex_test

import (
	"math/big"
	"regexp"
	"slices"
	"strings"
	"testing"

	"gantline/api"
	"gantline/lex"
)

// grammar is the chapter's section 'Words': what lies between, names, numbers, signs.
type grammar struct{ between, name, number, sign *regexp.Regexp }

func newGrammar() grammar {
	quoted := []string{}
	for _, s := range signs() {
		quoted = append(quoted, regexp.QuoteMeta(s))
	}
	longest := func(expr string) *regexp.Regexp {
		r := regexp.MustCompile("^(?:" + expr + ")")
		r.Longest()
		return r
	}
	return grammar{longest(`(?:[ \t\n\r]|//[^\n]*)*`), longest(`[A-Za-z_][A-Za-z0-9_]*`), longest(`[0-9]+`), longest(strings.Join(quoted, "|"))}
}

// next tells the word with which a text begins; Kind 0, if there is none.
func (g grammar) next(text string) lex.Word {
	if s := g.name.FindString(text); s != "" {
		switch {
		case len(s) > 64:
			return lex.Word{}
		case slices.Contains(keptNames(), s):
			return lex.Word{Kind: kept, Text: s}
		}
		return lex.Word{Kind: name, Text: s}
	}
	if s := g.number.FindString(text); s != "" {
		v, _ := new(big.Int).SetString(s, 10)
		if v.BitLen() > 62 {
			return lex.Word{}
		}
		return lex.Word{Kind: number, Text: s}
	}
	if s := g.sign.FindString(text); s != "" {
		return lex.Word{Kind: sign, Text: s}
	}
	return lex.Word{}
}

// wantPlain wants Cut to tell what the grammar does; it answers the error.
func (g grammar) wantPlain(t *testing.T, text string) api.Errno {
	t.Helper()
	var list []lex.Word
	at := len(g.between.FindString(text))
	for at < len(text) {
		w := g.next(text[at:])
		if w.Kind == end {
			wantFault(t, text, at)
			return api.ESYNTAX
		}
		w.At = at
		list = append(list, w)
		at += len(w.Text)
		at += len(g.between.FindString(text[at:]))
	}
	wantWords(t, text, list...)
	return api.OK
}

// dice tells numbers that look like chance, and are always the same.
type dice uint64

func (d *dice) below(n int) int {
	*d = *d*6364136223846793005 + 1442695040888963407
	return int(uint64(*d) >> 33 % uint64(n))
}

// piece is a part of a text: mostly a word or what lies between words, seldom a fault.
func (d *dice) piece() string {
	switch d.below(40) {
	case 0:
		return string([]byte{byte(d.below(256))})
	case 1:
		return []string{strings.Repeat("n", 62+d.below(4)), greatest, "4611686018427387904", "0" + greatest}[d.below(4)]
	case 2, 3, 4:
		return []string{"// a # b", "//", "// é\r", "/"}[d.below(4)] + []string{"\n", "\n", "\r\n", ""}[d.below(4)]
	}
	switch d.below(5) {
	case 0:
		return keptNames()[d.below(24)]
	case 1:
		return []string{"a", "_", "x1", "If", "B_", "lens"}[d.below(6)]
	case 2:
		return []string{"0", "7", "007", "12", "999999999999999999"}[d.below(5)]
	case 3:
		return []string{" ", "\t", "\n", "\r", "  "}[d.below(5)]
	}
	return signs()[d.below(30)]
}

// P19.1: many texts of pieces laid one behind the other, against the grammar; some have a fault, and some have none.
func TestLikePlain(t *testing.T) {
	g, d, seen := newGrammar(), dice(19), map[api.Errno]int{}
	for range 20000 {
		text := ""
		for range d.below(24) {
			text += d.piece()
		}
		seen[g.wantPlain(t, text)]++
	}
	if seen[api.OK] < 5000 || seen[api.ESYNTAX] < 2000 {
		t.Errorf("seen: %v", seen)
	}
}

// P19.1: many texts of few bytes, of such as are near one another, against the grammar.
func TestLikePlainOfBytes(t *testing.T) {
	g, d := newGrammar(), dice(62)
	for _, of := range []string{"/\n\r a", "=!<>&|/", "if0_ \n", "09a/ ", "\x00\x0b\x0c \t\n\r", "azAZ09_@[`{/:^", "\x7f\x80\xc3\xa9 a"} {
		for range 3000 {
			b := make([]byte, d.below(12))
			for n := range b {
				b[n] = of[d.below(len(of))]
			}
			g.wantPlain(t, string(b))
		}
	}
}

// P19.1: all texts of two bytes, against the grammar.
func TestLikePlainOfTwoBytes(t *testing.T) {
	g := newGrammar()
	for c := range 1 << 16 {
		g.wantPlain(t, string([]byte{byte(c >> 8), byte(c)}))
	}
}

// P19.1: what lies between the words is blanks and remarks alone: the words laid out anew, a blank between, are the same words.
func TestAgain(t *testing.T) {
	d := dice(7)
	for range 3000 {
		text := ""
		for range d.below(60) {
			text += d.piece()
		}
		words, _, e := lex.Cut(text)
		if e != api.OK {
			continue
		}
		words = words[:len(words)-1]
		again := ""
		for n := range words {
			words[n].At = len(again)
			again += words[n].Text + " "
		}
		wantWords(t, again, words...)
	}
}
