package check_test

import (
	"strings"

	"gantline/tree"
)

// wrong is a fault: where it is, and why.
type wrong struct {
	at  int
	why string
}

// seen is a variable that is in scope, with those behind it that it may hide.
type seen struct {
	name, typ       string
	block, function int
	up              *seen
}

// reckoner looks at a program as the chapter says it, step by step; types are texts here.
type reckoner struct {
	program  tree.Node
	blocks   int // that it has come to
	lambdas  int // likewise, and functions
	function int // that it is in
	result   string
}

// reckoned tells a program's first fault; none: false.
func reckoned(program tree.Node) (w wrong, faulty bool) {
	defer func() {
		if stop := recover(); stop != nil {
			w, faulty = stop.(wrong), true
		}
	}()
	r := reckoner{program: program}
	r.once("names", program.Kids)
	for _, n := range program.Kids {
		if n.Kind == "struct" {
			r.once("fields", n.Kids)
		}
	}
	r.types(program)
	r.main()
	for _, n := range program.Kids {
		if n.Kind == "func" {
			r.body(n, nil)
		}
	}
	return wrong{}, false
}

// must stops at a fault.
func must(ok bool, n tree.Node, why string) {
	if !ok {
		panic(wrong{n.At, why})
	}
}

func (r *reckoner) once(what string, list []tree.Node) {
	for i, n := range list {
		for _, ahead := range list[:i] {
			must(ahead.Text != n.Text, n, what)
		}
	}
}

// declared tells the first declaration of such a Kind and name.
func (r *reckoner) declared(kind, name string) (tree.Node, bool) {
	for _, n := range r.program.Kids {
		if n.Kind == kind && n.Text == name {
			return n, true
		}
	}
	return tree.Node{}, false
}

func (r *reckoner) types(n tree.Node) {
	if n.Kind == "named" {
		_, ok := r.declared("struct", n.Text)
		must(ok, n, "no struct")
	}
	for _, kid := range n.Kids {
		r.types(kid)
	}
}

func (r *reckoner) main() {
	begin, ok := r.declared("func", "main")
	end := r.program
	for _, end = range r.program.Kids {
	}
	must(ok, end, "no main")
	must(len(begin.Kids[0].Kids) == 0, end, "main's params")
	must(begin.Kids[1].Kind == "none", end, "main's result")
}

// written is a type as a text; a none is no text.
func written(t tree.Node) string {
	switch t.Kind {
	case "int", "bool":
		return t.Kind
	case "named":
		return t.Text
	case "list":
		return "[]" + written(t.Kids[0])
	case "chan":
		return "chan " + written(t.Kids[0])
	case "fn":
		var params []string
		for _, kid := range t.Kids[1:] {
			params = append(params, written(kid))
		}
		return signature(params, written(t.Kids[0]))
	}
	return ""
}

func signature(params []string, result string) string {
	return strings.TrimSuffix("func("+strings.Join(params, ", ")+") "+result, " ")
}

// ofFunction is the type of a func or a lambda.
func ofFunction(n tree.Node) string {
	var params []string
	for _, param := range n.Kids[0].Kids {
		params = append(params, written(param.Kids[0]))
	}
	return signature(params, written(n.Kids[1]))
}

// taken tells a fn's params and result; false, if it is none.
func taken(typ string) (params []string, result string, ok bool) {
	rest, ok := strings.CutPrefix(typ, "func(")
	if !ok {
		return nil, "", false
	}
	open, from := 1, 0
	for at := range rest {
		switch {
		case rest[at] == '(':
			open++
		case rest[at] == ')':
			open--
		}
		if open == 0 || open == 1 && rest[at] == ',' {
			if at > from {
				params = append(params, rest[from:at])
			}
			from = at + len(", ")
		}
		if open == 0 {
			return params, strings.TrimPrefix(rest[at+1:], " "), true
		}
	}
	return nil, "", false
}

// body looks at a func or a lambda with what is around it in scope.
func (r *reckoner) body(n tree.Node, around *seen) {
	r.lambdas++
	r.blocks++
	block, function, result := r.blocks, r.function, r.result
	r.function, r.result = r.lambdas, written(n.Kids[1])
	scope := around
	for i, param := range n.Kids[0].Kids {
		for _, ahead := range n.Kids[0].Kids[:i] {
			must(ahead.Text != param.Text, param, "params")
		}
		scope = &seen{param.Text, written(param.Kids[0]), block, r.function, scope}
	}
	r.statements(n.Kids[2].Kids, scope, block)
	must(r.result == "" || ends(n.Kids[2].Kids), n, "ends not")
	r.function, r.result = function, result
}

// ends tells whether statements always return.
func ends(list []tree.Node) bool {
	if len(list) == 0 {
		return false
	}
	last := list[len(list)-1]
	return last.Kind == "return" || last.Kind == "block" && ends(last.Kids) ||
		last.Kind == "if" && ends(last.Kids[1].Kids) && last.Kids[2].Kind == "block" && ends(last.Kids[2].Kids)
}

func (r *reckoner) statements(list []tree.Node, scope *seen, block int) {
	for _, n := range list {
		scope = r.statement(n, scope, block)
	}
}

// within looks at a block of its own.
func (r *reckoner) within(n tree.Node, scope *seen) {
	r.blocks++
	r.statements(n.Kids, scope, r.blocks)
}

// named is the scope with one more name.
func (r *reckoner) named(n tree.Node, typ string, scope *seen, block int) *seen {
	for s := scope; s != nil; s = s.up {
		must(s.block != block || s.name != n.Text, n, "in block")
	}
	return &seen{n.Text, typ, block, r.function, scope}
}

// statement tells the scope behind a statement.
func (r *reckoner) statement(n tree.Node, scope *seen, block int) *seen {
	kids := n.Kids
	switch n.Kind {
	case "block":
		r.within(n, scope)
	case "let":
		typ := written(kids[0])
		must(r.value(kids[1], scope) == typ, n, "let")
		return r.named(n, typ, scope, block)
	case "set":
		typ := r.left(kids[0], scope)
		must(r.value(kids[1], scope) == typ, n, "set")
	case "if":
		must(r.value(kids[0], scope) == "bool", kids[0], "if")
		r.within(kids[1], scope)
		if kids[2].Kind == "block" {
			r.within(kids[2], scope)
		}
	case "while":
		must(r.value(kids[0], scope) == "bool", kids[0], "while")
		r.within(kids[1], scope)
	case "return":
		typ := ""
		if kids[0].Kind != "none" {
			typ = r.value(kids[0], scope)
		}
		must(typ == r.result, n, "return")
	case "print":
		must(r.value(kids[0], scope) == "int", kids[0], "print")
	case "close":
		must(strings.HasPrefix(r.value(kids[0], scope), "chan "), kids[0], "close")
	case "go":
		must(r.maybe(kids[0], scope) == "", n, "go")
	case "send":
		r.send(kids, scope)
	case "select":
		r.choices(n, scope)
	case "do":
		must(kids[0].Kind == "call" || kids[0].Kind == "recv", n, "do")
		r.maybe(kids[0], scope)
	}
	return scope
}

// left tells the type of what may be set.
func (r *reckoner) left(n tree.Node, scope *seen) string {
	must(n.Kind == "name" || n.Kind == "index" || n.Kind == "dot", n, "left")
	if n.Kind != "name" {
		return r.value(n, scope)
	}
	for s := scope; s != nil; s = s.up {
		if s.name == n.Text {
			must(s.function == r.function, n, "set of caught")
			return s.typ
		}
	}
	global, ok := r.declared("global", n.Text)
	must(ok, n, "set of no name")
	return written(global.Kids[0])
}

func (r *reckoner) send(kids []tree.Node, scope *seen) {
	typ, ok := strings.CutPrefix(r.value(kids[0], scope), "chan ")
	must(ok, kids[0], "send to")
	must(r.value(kids[1], scope) == typ, kids[1], "sent")
}

func (r *reckoner) choices(n tree.Node, scope *seen) {
	must(len(n.Kids) > 0, n, "no case")
	before := false
	for _, kid := range n.Kids {
		switch kid.Kind {
		case "default":
			must(!before, kid, "second default")
			before = true
			r.within(kid.Kids[0], scope)
		case "onsend":
			r.send(kid.Kids, scope)
			r.within(kid.Kids[2], scope)
		case "onrecv":
			typ, ok := strings.CutPrefix(r.value(kid.Kids[0], scope), "chan ")
			must(ok, kid.Kids[0], "onrecv")
			r.blocks++
			block := r.blocks
			r.statements(kid.Kids[1].Kids, r.named(kid, typ, scope, block), block)
		}
	}
}

// value tells the type of an expression that must have one.
func (r *reckoner) value(n tree.Node, scope *seen) string {
	typ := r.maybe(n, scope)
	must(typ != "", n, "no result")
	return typ
}

// maybe tells the type of an expression: nothing, if it is a call without a result.
func (r *reckoner) maybe(n tree.Node, scope *seen) string {
	var kids []string
	switch n.Kind {
	case "nil", "lambda":
	case "make":
		kids = []string{written(n.Kids[0]), r.value(n.Kids[1], scope)}
	default:
		for _, kid := range n.Kids {
			kids = append(kids, r.value(kid, scope))
		}
	}
	switch n.Kind {
	case "number":
		return "int"
	case "true", "false":
		return "bool"
	case "nil":
		typ := written(n.Kids[0])
		must(typ != "int" && typ != "bool", n, "nil")
		return typ
	case "name":
		return r.name(n, scope)
	case "new":
		_, ok := r.declared("struct", n.Text)
		must(ok, n, "new")
		return n.Text
	case "lambda":
		r.body(n, scope)
		return ofFunction(n)
	case "call":
		return r.call(n, kids)
	}
	return r.operator(n, kids)
}

func (r *reckoner) name(n tree.Node, scope *seen) string {
	for s := scope; s != nil; s = s.up {
		if s.name == n.Text {
			return s.typ
		}
	}
	if global, ok := r.declared("global", n.Text); ok {
		return written(global.Kids[0])
	}
	f, ok := r.declared("func", n.Text)
	must(ok, n, "no name")
	return ofFunction(f)
}

func (r *reckoner) call(n tree.Node, kids []string) string {
	params, result, ok := taken(kids[0])
	must(ok, n, "call of")
	must(len(params) == len(kids)-1, n, "how many")
	for i, param := range params {
		must(param == kids[1+i], n.Kids[1+i], "argument")
	}
	return result
}

func (r *reckoner) operator(n tree.Node, kids []string) string {
	switch n.Kind {
	case "binary":
		return r.binary(n, kids[0], kids[1])
	case "unary":
		typ := map[string]string{"-": "int", "!": "bool"}[n.Text]
		must(kids[0] == typ, n, "unary")
		return typ
	case "index":
		typ, ok := strings.CutPrefix(kids[0], "[]")
		must(ok, n, "index of")
		must(kids[1] == "int", n.Kids[1], "index")
		return typ
	case "dot":
		of, ok := r.declared("struct", kids[0])
		must(ok, n, "dot of")
		for _, field := range of.Kids {
			if field.Text == n.Text {
				return written(field.Kids[0])
			}
		}
		must(false, n, "no field")
	case "make":
		must(strings.HasPrefix(kids[0], "[]") || strings.HasPrefix(kids[0], "chan "), n, "make of")
		must(kids[1] == "int", n.Kids[1], "make")
		return kids[0]
	case "len":
		must(strings.HasPrefix(kids[0], "[]"), n, "len")
		return "int"
	case "recv":
		typ, ok := strings.CutPrefix(kids[0], "chan ")
		must(ok, n, "recv")
		return typ
	}
	return ""
}

func (r *reckoner) binary(n tree.Node, left, right string) string {
	for _, row := range []struct{ signs, takes, gives string }{
		{"+ - * / % & | ^ << >>", "int", "int"}, {"< <= > >=", "int", "bool"}, {"== !=", left, "bool"}, {"&& ||", "bool", "bool"},
	} {
		for _, sign := range strings.Fields(row.signs) {
			if sign == n.Text {
				must(left == row.takes && right == row.takes, n, "binary")
				return row.gives
			}
		}
	}
	return ""
}
