package tree

// part is what a row of the chapter's table names where a kid stands.
type part int

const (
	declaration part = iota
	field
	params
	param
	typ
	typOrNone
	block
	blockOrNone
	statement
	choice // of a select
	expression
	expressionOrNone
	call
)

// fits tells whether a node is of a Kind that the table has, with such kids as its row names.
func fits(n Node) bool {
	switch n.Kind {
	case "none", "int", "bool", "named", "number", "true", "false", "name", "new":
		return are(n.Kids)
	case "program":
		return all(n.Kids, declaration)
	case "struct":
		return all(n.Kids, field)
	case "params":
		return all(n.Kids, param)
	case "block":
		return all(n.Kids, statement)
	case "select":
		return all(n.Kids, choice)
	case "field", "global", "param", "list", "chan", "nil":
		return are(n.Kids, typ)
	case "func", "lambda":
		return are(n.Kids, params, typOrNone, block)
	case "fn":
		return len(n.Kids) > 0 && are(n.Kids[:1], typOrNone) && all(n.Kids[1:], typ)
	case "let", "make":
		return are(n.Kids, typ, expression)
	case "if":
		return are(n.Kids, expression, block, blockOrNone)
	case "while", "onrecv":
		return are(n.Kids, expression, block)
	case "onsend":
		return are(n.Kids, expression, expression, block)
	case "default":
		return are(n.Kids, block)
	case "return":
		return are(n.Kids, expressionOrNone)
	case "go":
		return are(n.Kids, call)
	case "print", "close", "do", "unary", "dot", "len", "recv":
		return are(n.Kids, expression)
	case "set", "send", "binary", "index":
		return are(n.Kids, expression, expression)
	case "call":
		return len(n.Kids) > 0 && all(n.Kids, expression)
	}
	return false
}

// are tells whether kids are just these parts.
func are(kids []Node, parts ...part) bool {
	if len(kids) != len(parts) {
		return false
	}
	for i, p := range parts {
		if !p.takes(kids[i].Kind) {
			return false
		}
	}
	return true
}

// all tells whether each of the kids is such a part.
func all(kids []Node, p part) bool {
	for _, kid := range kids {
		if !p.takes(kid.Kind) {
			return false
		}
	}
	return true
}

// takes tells whether a node of a Kind may be such a part.
func (p part) takes(kind string) bool {
	switch p {
	case declaration:
		return kind == "struct" || kind == "global" || kind == "func"
	case field:
		return kind == "field"
	case params:
		return kind == "params"
	case param:
		return kind == "param"
	case typ:
		return isType(kind)
	case typOrNone:
		return kind == "none" || isType(kind)
	case block:
		return kind == "block"
	case blockOrNone:
		return kind == "none" || kind == "block"
	case statement:
		return isStatement(kind)
	case choice:
		return kind == "onrecv" || kind == "onsend" || kind == "default"
	case expression:
		return isExpression(kind)
	case expressionOrNone:
		return kind == "none" || isExpression(kind)
	case call:
		return kind == "call"
	}
	return false
}

func isType(kind string) bool {
	switch kind {
	case "int", "bool", "named", "list", "chan", "fn":
		return true
	}
	return false
}

func isStatement(kind string) bool {
	switch kind {
	case "block", "let", "set", "if", "while", "return", "print", "close", "go", "send", "select", "do":
		return true
	}
	return false
}

func isExpression(kind string) bool {
	switch kind {
	case "number", "true", "false", "nil", "name", "binary", "unary", "call", "index", "dot", "new", "make", "len", "recv", "lambda":
		return true
	}
	return false
}
