package parse

import (
	"strings"

	"gantline/api"
	"gantline/tree"
)

// row reads a node that begins at the next word and is written so: its text, parts that are its kids, and words as they stand. These kids come behind those that it has already.
func (r *reader) row(kind, written string, kids ...tree.Node) tree.Node {
	n := tree.Node{Kind: kind, At: r.word().At, Kids: kids}
	for _, name := range strings.Fields(written) {
		switch name {
		case "NAME":
			n.Text = r.text(kindName)
		case "NUMBER":
			n.Text = r.text(kindNumber)
		case "SIGN":
			n.Text = r.sign()
		case "args":
			n.Kids = append(n.Kids, r.list(r.inside)...)
		default:
			if part := r.part(name); part != nil {
				n.Kids = append(n.Kids, part())
			} else {
				r.need(name)
			}
		}
	}
	return n
}

// part tells how a kid is read that has such a name in a row; nil, if that is a word as it stands.
func (r *reader) part(name string) func() tree.Node {
	switch name {
	case "params":
		return r.params
	case "type":
		return r.typ
	case "[type]":
		return r.typeOrNone
	case "block":
		return r.block
	case "[else]":
		return r.elseOrNone
	case "expr":
		return r.expr
	case "[expr]":
		return r.exprOrNone
	case "call":
		return r.call
	case "unary":
		return r.unary
	case "inside":
		return r.inside
	}
	return nil
}

func (r *reader) none() tree.Node { return r.row("none", "") }

func (r *reader) program() tree.Node {
	n := r.row("program", "")
	for r.word().Kind != kindEnd {
		n.Kids = append(n.Kids, r.declaration())
	}
	return n
}

func (r *reader) declaration() tree.Node {
	switch r.word().Text {
	case "struct":
		n := r.row("struct", "struct NAME {")
		n.Kids = r.until("}", r.field)
		return n
	case "var":
		return r.row("global", "var NAME type ;")
	}
	return r.row("func", "func NAME ( params ) [type] block")
}

func (r *reader) field() tree.Node { return r.row("field", "NAME type ;") }

func (r *reader) params() tree.Node {
	n := r.row("params", "")
	n.Kids = r.list(r.param)
	return n
}

func (r *reader) param() tree.Node { return r.row("param", "NAME type") }

func (r *reader) typ() tree.Node { return r.deeper(r.typeItself) }

func (r *reader) typeItself() tree.Node {
	switch text := r.word().Text; text {
	case "int", "bool":
		return r.row(text, text)
	case "[":
		return r.row("list", "[ ] type")
	case "chan":
		return r.row("chan", "chan type")
	case "func":
		return r.fn()
	}
	return r.row("named", "NAME")
}

// fn reads a type of functions, whose result is its first kid.
func (r *reader) fn() tree.Node {
	n := r.row("fn", "func (")
	types := r.list(r.typ)
	r.need(")")
	n.Kids = append([]tree.Node{r.typeOrNone()}, types...)
	return n
}

func (r *reader) typeOrNone() tree.Node {
	switch r.word().Text {
	case "int", "bool", "[", "chan", "func":
		return r.typ()
	}
	if r.word().Kind == kindName {
		return r.typ()
	}
	return r.none()
}

func (r *reader) block() tree.Node { return r.deeper(r.blockItself) }

func (r *reader) blockItself() tree.Node {
	n := r.row("block", "{")
	n.Kids = r.until("}", r.statement)
	return n
}

func (r *reader) statement() tree.Node {
	switch text := r.word().Text; text {
	case "{":
		return r.block()
	case "var":
		return r.row("let", "var NAME type = expr ;")
	case "if":
		return r.row("if", "if expr block [else]")
	case "while":
		return r.row("while", "while expr block")
	case "return":
		return r.row("return", "return [expr] ;")
	case "print", "close":
		return r.row(text, text+" expr ;")
	case "go":
		return r.row("go", "go call ;")
	case "send":
		return r.row("send", "send expr , expr ;")
	case "select":
		n := r.row("select", "select {")
		n.Kids = r.until("}", r.choice)
		return n
	}
	return r.doOrSet()
}

func (r *reader) elseOrNone() tree.Node {
	if r.take("else") {
		return r.block()
	}
	return r.none()
}

// choice reads one of a select's cases.
func (r *reader) choice() tree.Node {
	if r.is("default") {
		return r.row("default", "default block")
	}
	at := r.word().At
	r.need("case")
	n := r.sendOrRecv()
	n.At = at
	return n
}

func (r *reader) sendOrRecv() tree.Node {
	if r.is("send") {
		return r.row("onsend", "send expr , expr block")
	}
	return r.row("onrecv", "recv NAME = expr block")
}

func (r *reader) doOrSet() tree.Node {
	n := r.row("do", "expr")
	if r.is("=") {
		return r.row("set", "= expr ;", n.Kids...)
	}
	r.need(";")
	return n
}

func (r *reader) exprOrNone() tree.Node {
	if r.is(";") {
		return r.none()
	}
	return r.expr()
}

// call reads an expression that must be a call; what it is can be told behind it alone.
func (r *reader) call() tree.Node {
	n := r.expr()
	if n.Kind != "call" {
		r.fault(api.ESYNTAX)
	}
	return n
}
