package lex_test

import (
	"strings"
	"testing"

	"gantline/api"
	"gantline/lex"
)

const most = 16384

// filled is a text that ends with some bytes, and is as long as is told.
func filled(with, last string, length int) string {
	text := strings.Repeat(with, length/len(with)+1)
	return text[:length-len(last)] + last
}

// each is a text of words of one byte.
func each(kind int, text string) []lex.Word {
	var list []lex.Word
	for at := range len(text) {
		list = append(list, lex.Word{Kind: kind, Text: text[at : at+1], At: at})
	}
	return list
}

// P19.1: MaxSource bytes are well, one more is refused.
func TestMaxSource(t *testing.T) {
	if api.MaxSource != most {
		t.Fatalf("MaxSource is %d", api.MaxSource)
	}
	for _, length := range []int{most - 1, most} {
		wantWords(t, filled(" ", "", length))
		wantWords(t, filled("\n", "", length))
		wantWords(t, filled("/", "", length))
		wantWords(t, filled("// #\n", "//", length))
		wantWords(t, filled(" ", "a", length), lex.Word{Kind: name, Text: "a", At: length - 1})
		wantWords(t, filled(";", "", length), each(sign, filled(";", "", length))...)
		wantWords(t, filled("0", "", length), lex.Word{Kind: number, Text: filled("0", "", length)})
		wantWords(t, filled("0", greatest, length), lex.Word{Kind: number, Text: filled("0", greatest, length)})
	}
	for _, length := range []int{most + 1, most + 2, 2 * most, 1 << 20} {
		for _, with := range []string{" ", "\n", "/", "// #\n", "a ", "a", ";", "0", "9", "#", "\x00"} {
			wantRefused(t, filled(with, "", length), 0, api.ELIMIT)
		}
	}
}

// P19.1: a text of MaxSource bytes may have a fault; of one with more that is not told.
func TestMaxSourceAndFault(t *testing.T) {
	for _, c := range []struct {
		with, last string
		place      int // from the last bytes on
	}{{" ", "#", 0}, {"a ", "#", 0}, {";", "$", 0}, {"// #\n", "\n#", 1}, {" ", " 4611686018427387904", 1}, {" ", " " + strings.Repeat("n", 65), 1}, {" ", "# a", 0}} {
		wantFault(t, filled(c.with, c.last, most), most-len(c.last)+c.place)
		wantRefused(t, filled(c.with, c.last, most+1), 0, api.ELIMIT)
	}
	for _, ahead := range []string{"#", strings.Repeat("n", 65), "4611686018427387904", strings.Repeat("9", 16000)} {
		wantFault(t, ahead+strings.Repeat(" ", most-len(ahead)), 0)
		wantRefused(t, ahead+strings.Repeat(" ", most+1-len(ahead)), 0, api.ELIMIT)
	}
	for _, c := range "n9#" {
		wantFault(t, strings.Repeat(string(c), most), 0)
		wantRefused(t, strings.Repeat(string(c), most+1), 0, api.ELIMIT)
	}
	wantFault(t, strings.Repeat("0", most-19)+"4611686018427387904", 0)
}
