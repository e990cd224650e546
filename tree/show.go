package tree

import (
	"strings"

	"gantline/part"
)

const mostAbove = 199 // nodes above one that is written

// writer writes nodes that have so many others above them.
type writer struct {
	out   *strings.Builder
	above int
}

func (w writer) node(n Node) {
	if w.above > mostAbove || !part.Fits(n.Kind, n.Kids, kindOf) {
		return
	}
	w.fill(n, pattern(n))
}

func kindOf(n Node) string { return n.Kind }

// fill writes a node by its pattern.
func (w writer) fill(n Node, pattern string) {
	below := writer{w.out, w.above + 1}
	for _, c := range []byte(pattern) {
		switch c {
		case '$':
			w.out.WriteString(n.Text)
		case '0', '1', '2':
			below.node(n.Kids[c-'0'])
		case '*':
			below.many(n)
		default:
			w.out.WriteByte(c)
		}
	}
}

// many writes those kids of a node of which there may be any number.
func (w writer) many(n Node) {
	switch n.Kind {
	case "program":
		w.each(n.Kids, "", "\n")
	case "struct":
		w.each(n.Kids, "", "")
	case "block", "select":
		w.each(n.Kids, " ", "")
	case "params":
		w.list(n.Kids)
	case "call", "fn":
		w.list(n.Kids[1:])
	}
}

func (w writer) each(kids []Node, ahead, behind string) {
	for _, kid := range kids {
		w.out.WriteString(ahead)
		w.node(kid)
		w.out.WriteString(behind)
	}
}

func (w writer) list(kids []Node) {
	for i, kid := range kids {
		if i > 0 {
			w.out.WriteString(", ")
		}
		w.node(kid)
	}
}

// pattern tells what is written of a node that fits: $ stands for its Text, 0 to 2 for one of its kids, * for those of which there may be any number.
func pattern(n Node) string {
	switch n.Kind {
	case "none":
		return ""
	case "program", "params":
		return "*"
	case "struct":
		return "struct $ {* }"
	case "field":
		// The blank is the field's own: where nothing stands in the field's place, there is none.
		return " $ 0;"
	case "param":
		return "$ 0"
	case "global":
		return "var $ 0;"
	case "func":
		return without(n.Kids[1], "func $(0) 2", "func $(0) 1 2")
	case "int", "bool":
		return n.Kind
	case "named":
		return "$"
	case "list":
		return "[]0"
	case "chan":
		return "chan 0"
	case "fn":
		return without(n.Kids[0], "func(*)", "func(*) 0")
	}
	if part.IsExpression(n.Kind) {
		return ofExpression(n)
	}
	return ofStatement(n)
}

// ofStatement tells the pattern of a statement, or of one of a select's cases.
func ofStatement(n Node) string {
	switch n.Kind {
	case "block":
		return "{* }"
	case "let":
		return "var $ 0 = 1;"
	case "set":
		return "0 = 1;"
	case "if":
		return without(n.Kids[2], "if 0 1", "if 0 1 else 2")
	case "while":
		return "while 0 1"
	case "return":
		return without(n.Kids[0], "return;", "return 0;")
	case "print":
		return "print 0;"
	case "close":
		return "close 0;"
	case "go":
		return "go 0;"
	case "send":
		return "send 0, 1;"
	case "select":
		return "select {* }"
	case "onrecv":
		return "case recv $ = 0 1"
	case "onsend":
		return "case send 0, 1 2"
	case "default":
		return "default 0"
	case "do":
		return "0;"
	}
	return ""
}

func ofExpression(n Node) string {
	switch n.Kind {
	case "number", "name":
		return "$"
	case "true", "false":
		return n.Kind
	case "nil":
		return "nil(0)"
	case "binary":
		return "(0 $ 1)"
	case "unary":
		return "($ 0)"
	case "call":
		return "0(*)"
	case "index":
		return "0[1]"
	case "dot":
		return "0.$"
	case "new":
		return "new $"
	case "make":
		return "make(0, 1)"
	case "len":
		return "len(0)"
	case "recv":
		return "recv(0)"
	case "lambda":
		return without(n.Kids[1], "(func(0) 2)", "(func(0) 1 2)")
	}
	return ""
}

// without tells one pattern, if a kid that may be left out is none, and else the other.
func without(kid Node, short, long string) string {
	if kid.Kind == "none" {
		return short
	}
	return long
}
