package parse

import (
	"gantline/api"
	"gantline/lex"
	"gantline/tree"
)

// The kinds of words that are asked for.
const (
	kindEnd    = 0
	kindName   = 1
	kindNumber = 3
)

const mostDeep = 60

// reader goes through a text's words.
type reader struct {
	words []lex.Word // those still ahead; the last, the text's end, stays
	deep  int        // how deep the next word is
	at    int        // where the first fault is
	errno api.Errno  // and what it is
}

// word is the next one.
func (r *reader) word() lex.Word { return r.words[0] }

// is tells whether the next word is a sign or a kept name.
func (r *reader) is(text string) bool { return r.word().Text == text }

// pass goes on behind the next word. A word is too deep when it is passed, and not ahead of that: one that fits nothing is ESYNTAX, however deep.
func (r *reader) pass() {
	if r.deep > mostDeep {
		r.fault(api.ELIMIT)
		return
	}
	r.words = r.words[1:]
}

// take passes a sign or a kept name, if it is the next word.
func (r *reader) take(text string) bool {
	if !r.is(text) {
		return false
	}
	r.pass()
	return true
}

// need passes a sign or a kept name.
func (r *reader) need(text string) {
	if !r.take(text) {
		r.fault(api.ESYNTAX)
	}
}

// text passes a word of a kind, and tells it.
func (r *reader) text(kind int) string {
	w := r.word()
	if w.Kind != kind {
		r.fault(api.ESYNTAX)
		return ""
	}
	r.pass()
	return w.Text
}

// sign passes an operator, which the next word is, and tells it.
func (r *reader) sign() string {
	text := r.word().Text
	r.pass()
	return text
}

// fault keeps the first fault, which is at the next word. Behind it nothing but the text's end is ahead: nothing passes that, so all that is under way comes to its end.
func (r *reader) fault(errno api.Errno) {
	if r.errno == api.OK {
		r.at, r.errno = r.word().At, errno
	}
	r.words = r.words[len(r.words)-1:]
}

// deeper reads a part that is one deeper than what it stands in.
func (r *reader) deeper(part func() tree.Node) tree.Node {
	r.deep++
	n := part()
	r.deep--
	return n
}

// until reads parts up to a sign that closes them, which it passes.
func (r *reader) until(closing string, part func() tree.Node) []tree.Node {
	var parts []tree.Node
	for r.errno == api.OK && !r.take(closing) {
		parts = append(parts, part())
	}
	return parts
}

// list reads parts with commas between, ahead of a bracket; it may be that there are none.
func (r *reader) list(part func() tree.Node) []tree.Node {
	if r.is(")") {
		return nil
	}
	parts := []tree.Node{part()}
	for r.take(",") {
		parts = append(parts, part())
	}
	return parts
}
