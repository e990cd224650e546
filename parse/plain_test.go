package parse_test

import (
	"slices"
	"strconv"
	"strings"
	"testing"

	"gantline/api"
	"gantline/parse"
	"gantline/tree"
)

// alike tells whether two trees are the same, and stand at the same places.
func alike(x, y tree.Node) bool {
	return x.Kind == y.Kind && x.Text == y.Text && x.At == y.At && slices.EqualFunc(x.Kids, y.Kids, alike)
}

// where is a tree with its places, as it can be told.
func where(x tree.Node) string {
	text := x.Kind + "@" + strconv.Itoa(x.At)
	for _, kid := range x.Kids {
		text += " " + where(kid)
	}
	return text
}

// P21.1, P21.2: many programs that were written along with their trees, some of them too deep.
func TestLikeAuthor(t *testing.T) {
	taken, refused, shown := 0, 0, 0
	for seed := range 6000 {
		// The more eager, the deeper.
		a := newAuthor(seed, []int{20, 50, 70, 80, 97, 99}[seed%6], []int{80, 200, 400, 600}[seed/6%4])
		want := a.program()
		text, places := a.text(a.words)
		if len(text) > api.MaxSource {
			continue
		}
		if a.over >= 0 {
			wantFault(t, text, api.ELIMIT, places[a.over])
			refused++
			continue
		}
		want = placed(want, places)
		x, at, e := parse.Parse(text)
		if e != api.OK || at != 0 || !alike(x, want) {
			t.Errorf("Parse(%s): error %d at %d, %s %s, want %s %s", short(text), e, at, told(x), where(x), told(want), where(want))
		}
		taken++
		if wantShown(t, x) {
			shown++
		}
	}
	if taken < 4000 || refused < 300 || shown < 3500 {
		t.Errorf("%d taken, %d refused, %d shown", taken, refused, shown)
	}
}

// P21.1: many programs in which words were changed, against the chapter's grammar.
func TestLikeGrammar(t *testing.T) {
	g := newGrammar()
	taken, refused := 0, 0
	for seed := range 4000 {
		a := newAuthor(seed, []int{20, 50, 60}[seed%3], 60)
		a.program()
		list := a.words
		for range a.below(3) {
			list = a.changed(list)
		}
		text, places := a.text(list)
		fault := g.fault(list)
		if fault < 0 {
			read(t, text)
			taken++
			continue
		}
		wantFault(t, text, api.ESYNTAX, places[fault])
		refused++
	}
	if taken < 1000 || refused < 1500 {
		t.Errorf("%d taken, %d refused", taken, refused)
	}
}

// changed are words of which one is another, or left out, or one more, or which end early.
func (d *dice) changed(list []string) []string {
	list = slices.Clone(list)
	at := d.below(len(list) + 1)
	word := words()[d.below(len(words())-1)]
	if d.below(2) == 0 && len(list) > 0 {
		word = list[d.below(len(list))]
	}
	switch change := d.below(8); {
	case change == 0 || at == len(list):
		return slices.Insert(list, at, word)
	case change == 1:
		return list[:at]
	case change < 4:
		return slices.Delete(list, at, at+1)
	case change < 6 && at+1 < len(list):
		list[at], list[at+1] = list[at+1], list[at]
	default:
		list[at] = word
	}
	return list
}

// P21.1: the chapter's grammar, of which the plain reckoning is one of all ways at once.
func TestGrammarItself(t *testing.T) {
	g := newGrammar()
	for text, want := range map[string]int{
		"": -1, "func": 1, "x": 0, "func main ( ) { print 1 + 2 ; }": -1, "func f ( ) { a < b < c ; }": 8, "func f ( ) { go a ; }": 7, "func f ( ) { go a + b ( ) ; }": 11, "func f ( ) { go ( a ( ) ) ; }": -1,
		"func f ( ) { go nil ( S ) ; }": 10, "func f ( ) { go - a ( ) ; }": 10, "func f ( ) { go ( a ) + ( b ) ; }": 13, "func f ( ) { go func ( ) { } ( ) ; }": -1, "func f ( ) { go": 6,
	} {
		if got := g.fault(strings.Fields(text)); got != want {
			t.Errorf("%s: %d, want %d", text, got, want)
		}
	}
}
