// Package part has the table of chapter 20: the Kinds of the nodes of a program, and which kids each of them has.
package part

import "strings"

// part is what a row of the chapter's table names where a kid stands.
type part int

const (
	declaration part = iota
	field
	params
	param
	typ
	typOrNone
	block
	blockOrNone
	statement
	choice // of a select
	expression
	expressionOrNone
	call
)

// Fits tells whether a node is of a Kind that the table has, with such kids as its row names.
func Fits[Node any](kind string, kids []Node, kindOf func(Node) string) bool {
	var kinds []string
	for _, kid := range kids {
		kinds = append(kinds, kindOf(kid))
	}
	return fits(kind, kinds)
}

func fits(kind string, kids []string) bool {
	switch kind {
	case "none", "int", "bool", "named", "number", "true", "false", "name", "new":
		return are(kids)
	case "program":
		return all(kids, declaration)
	case "struct":
		return all(kids, field)
	case "params":
		return all(kids, param)
	case "block":
		return all(kids, statement)
	case "select":
		return all(kids, choice)
	case "field", "global", "param", "list", "chan", "nil":
		return are(kids, typ)
	case "func", "lambda":
		return are(kids, params, typOrNone, block)
	case "fn":
		return len(kids) > 0 && are(kids[:1], typOrNone) && all(kids[1:], typ)
	case "let", "make":
		return are(kids, typ, expression)
	case "if":
		return are(kids, expression, block, blockOrNone)
	case "while", "onrecv":
		return are(kids, expression, block)
	case "onsend":
		return are(kids, expression, expression, block)
	case "default":
		return are(kids, block)
	case "return":
		return are(kids, expressionOrNone)
	case "go":
		return are(kids, call)
	case "print", "close", "do", "unary", "dot", "len", "recv":
		return are(kids, expression)
	case "set", "send", "binary", "index":
		return are(kids, expression, expression)
	case "call":
		return len(kids) > 0 && all(kids, expression)
	}
	return false
}

// Says tells whether a node of a Kind may have such a Text: a name, digits, a sign, or nothing, as its row names.
func Says(kind, text string) bool {
	switch kind {
	case "struct", "field", "global", "func", "param", "named", "let", "onrecv", "name", "dot", "new":
		return text != ""
	case "number":
		return text != "" && strings.Trim(text, "0123456789") == ""
	case "binary":
		return isBinary(text)
	case "unary":
		return text == "-" || text == "!"
	}
	return text == ""
}

func isBinary(sign string) bool {
	switch sign {
	case "+", "-", "*", "/", "%", "&", "|", "^", "<<", ">>", "<", "<=", ">", ">=", "==", "!=", "&&", "||":
		return true
	}
	return false
}

// are tells whether kids are just these parts.
func are(kids []string, parts ...part) bool {
	if len(kids) != len(parts) {
		return false
	}
	for i, p := range parts {
		if !p.takes(kids[i]) {
			return false
		}
	}
	return true
}

// all tells whether each of the kids is such a part.
func all(kids []string, p part) bool {
	for _, kid := range kids {
		if !p.takes(kid) {
			return false
		}
	}
	return true
}

// takes tells whether a node of a Kind may be such a part.
func (p part) takes(kind string) bool {
	switch p {
	case declaration:
		return kind == "struct" || kind == "global" || kind == "func"
	case field:
		return kind == "field"
	case params:
		return kind == "params"
	case param:
		return kind == "param"
	case typ:
		return isType(kind)
	case typOrNone:
		return kind == "none" || isType(kind)
	case block:
		return kind == "block"
	case blockOrNone:
		return kind == "none" || kind == "block"
	case statement:
		return isStatement(kind)
	case choice:
		return kind == "onrecv" || kind == "onsend" || kind == "default"
	case expression:
		return IsExpression(kind)
	case expressionOrNone:
		return kind == "none" || IsExpression(kind)
	case call:
		return kind == "call"
	}
	return false
}

func isType(kind string) bool {
	switch kind {
	case "int", "bool", "named", "list", "chan", "fn":
		return true
	}
	return false
}

func isStatement(kind string) bool {
	switch kind {
	case "block", "let", "set", "if", "while", "return", "print", "close", "go", "send", "select", "do":
		return true
	}
	return false
}

// IsExpression tells whether nodes of a Kind are expressions.
func IsExpression(kind string) bool {
	switch kind {
	case "number", "true", "false", "nil", "name", "binary", "unary", "call", "index", "dot", "new", "make", "len", "recv", "lambda":
		return true
	}
	return false
}
