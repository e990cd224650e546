package parse

import "gantline/tree"

// The rows of operators, each of which binds more closely than those above it.
const (
	noRow = iota
	orRow
	andRow
	cmpRow
	sumRow
	termRow
)

// rowOf tells in which row an operator is.
func rowOf(sign string) int {
	switch sign {
	case "||":
		return orRow
	case "&&":
		return andRow
	case "==", "!=", "<", "<=", ">", ">=":
		return cmpRow
	case "+", "-", "|", "^":
		return sumRow
	case "*", "/", "%", "<<", ">>", "&":
		return termRow
	}
	return noRow
}

func (r *reader) expr() tree.Node { return r.binary(orRow) }

// inside reads an expression in brackets, without these.
func (r *reader) inside() tree.Node { return r.deeper(r.expr) }

// binary reads what the operators of a row, and of those that bind more closely, may join.
func (r *reader) binary(row int) tree.Node {
	if row > termRow {
		return r.unary()
	}
	left := r.binary(row + 1)
	for rowOf(r.word().Text) == row {
		left = r.row("binary", "SIGN", left)
		left.Kids = append(left.Kids, r.binary(row+1))
		if row == cmpRow {
			break // there is no comparison of comparisons
		}
	}
	return left
}

func (r *reader) unary() tree.Node {
	if r.is("-") || r.is("!") {
		return r.deeper(r.signed)
	}
	return r.post()
}

func (r *reader) signed() tree.Node { return r.row("unary", "SIGN unary") }

func (r *reader) post() tree.Node {
	n := r.prim()
	for {
		switch r.word().Text {
		case "(":
			n = r.row("call", "( args )", n)
		case "[":
			n = r.row("index", "[ inside ]", n)
		case ".":
			n = r.row("dot", ". NAME", n)
		default:
			return n
		}
	}
}

func (r *reader) prim() tree.Node {
	if r.word().Kind == kindNumber {
		return r.row("number", "NUMBER")
	}
	switch text := r.word().Text; text {
	case "true", "false":
		return r.row(text, text)
	case "nil":
		return r.row("nil", "nil ( type )")
	case "new":
		return r.row("new", "new NAME")
	case "make":
		return r.row("make", "make ( type , inside )")
	case "len", "recv":
		return r.row(text, text+" ( inside )")
	case "func":
		return r.row("lambda", "func ( params ) [type] block")
	case "(":
		r.pass()
		n := r.inside()
		r.need(")")
		return n
	}
	return r.row("name", "NAME")
}
