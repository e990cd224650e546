package check_test

import (
	"slices"
	"strconv"
	"strings"

	"gantline/tree"
)

// dice tells numbers that look like chance, and are always the same.
type dice uint64

func (d *dice) below(n int) int {
	*d = *d*6364136223846793005 + 1442695040888963407
	return int(uint64(*d) >> 33 % uint64(n))
}

// one is one of some words.
func (d *dice) one(words string) string {
	list := strings.Fields(words)
	return list[d.below(len(list))]
}

// words are all names that authors know: few, so that many hide others.
const words = "a b c d e f g h i j main S"

// known is what a name stands for in the place that an author has come to.
type known struct {
	name, kind      string // a variable, or what is declared
	typ             tree.Node
	block, function int
}

// author writes programs without a fault.
type author struct {
	dice
	left     int // nodes that it still likes to write
	structs  []tree.Node
	known    []known // the last of a name hides the others
	blocks   int
	function int
	result   tree.Node
}

// program writes one of about so many nodes.
func (a *author) program(nodes int) tree.Node {
	*a = author{dice: a.dice, left: nodes}
	names := a.shuffled(strings.Fields(strings.Replace(words, "main ", "", 1)))
	var all []tree.Node
	for range a.below(3) {
		all = append(all, n("struct", names[0]))
		names = names[1:]
	}
	a.structs = slices.Clone(all)
	for at := range all {
		for _, name := range a.shuffled(strings.Fields(words))[:a.below(4)] {
			all[at].Kids = append(all[at].Kids, n("field", name, a.typ(2)))
		}
	}
	a.structs = slices.Clone(all)
	for range a.below(4) {
		all = append(all, n("global", names[0], a.typ(2)))
		names = names[1:]
	}
	for range 1 + a.below(3) {
		all = append(all, n("func", names[0], a.params(), a.returned(), n("block", "")))
		names = names[1:]
	}
	all = append(all, n("func", "main", n("params", ""), n("none", ""), n("block", "")))
	for _, x := range all {
		switch x.Kind {
		case "global":
			a.known = append(a.known, known{x.Text, x.Kind, x.Kids[0], -1, 0})
		case "func":
			a.known = append(a.known, known{x.Text, x.Kind, typeOf(x), -1, 0})
		}
	}
	share := a.left / 3
	for at, x := range all {
		if x.Kind == "func" {
			a.left = share
			all[at].Kids[2] = a.body(x)
		}
	}
	for at := range all {
		other := a.below(len(all))
		all[at], all[other] = all[other], all[at]
	}
	return n("program", "", all...)
}

func (a *author) shuffled(list []string) []string {
	for at := range list {
		other := a.below(len(list))
		list[at], list[other] = list[other], list[at]
	}
	return list
}

// typeOf is the type of a func or a lambda.
func typeOf(x tree.Node) tree.Node {
	typ := n("fn", "", x.Kids[1])
	for _, param := range x.Kids[0].Kids {
		typ.Kids = append(typ.Kids, param.Kids[0])
	}
	return typ
}

func (a *author) typ(deep int) tree.Node {
	if deep <= 0 {
		return n(a.one("int bool"), "")
	}
	switch a.below(8) {
	case 0, 1:
		return n("int", "")
	case 2:
		return n("bool", "")
	case 3:
		return n("list", "", a.typ(deep-1))
	case 4:
		return n("chan", "", a.typ(deep-1))
	case 5:
		typ := n("fn", "", a.returned())
		for range a.below(3) {
			typ.Kids = append(typ.Kids, a.typ(deep-1))
		}
		return typ
	}
	if len(a.structs) == 0 {
		return n("bool", "")
	}
	return n("named", a.structs[a.below(len(a.structs))].Text)
}

// returned is what a function may return.
func (a *author) returned() tree.Node {
	if a.below(2) == 0 {
		return n("none", "")
	}
	return a.typ(1)
}

func (a *author) params() tree.Node {
	x := n("params", "")
	for _, name := range a.shuffled(strings.Fields(words))[:a.below(3)] {
		x.Kids = append(x.Kids, n("param", name, a.typ(2)))
	}
	return x
}

// body writes the block of a func or a lambda.
func (a *author) body(x tree.Node) tree.Node {
	held, result := len(a.known), a.result
	a.function++
	a.blocks++
	a.result = x.Kids[1]
	for _, param := range x.Kids[0].Kids {
		a.declare(param.Text, param.Kids[0])
	}
	block := n("block", "", a.statements()...)
	if a.result.Kind != "none" {
		block.Kids = append(block.Kids, a.ending(2))
	}
	a.blocks--
	a.function--
	a.known, a.result = a.known[:held], result
	return block
}

func (a *author) declare(name string, typ tree.Node) {
	a.known = append(a.known, known{name, "variable", typ, a.blocks, a.function})
}

// ending is a statement behind which nothing goes on.
func (a *author) ending(deep int) tree.Node {
	if deep > 0 {
		switch a.below(5) {
		case 0:
			return n("if", "", a.expr(n("bool", "")), n("block", "", a.ending(deep-1)), n("block", "", a.ending(deep-1)))
		case 1:
			return n("block", "", a.ending(deep-1))
		}
	}
	return n("return", "", a.expr(a.result))
}

// block writes one with such names of its own.
func (a *author) block(own ...known) tree.Node {
	held := len(a.known)
	a.blocks++
	for _, o := range own {
		a.declare(o.name, o.typ)
	}
	x := n("block", "", a.statements()...)
	a.blocks--
	a.known = a.known[:held]
	return x
}

func (a *author) statements() []tree.Node {
	var list []tree.Node
	for range a.below(6) {
		if a.left > 0 {
			list = append(list, a.statement())
		}
	}
	return list
}

// free tells a name that the innermost block does not have; nothing, if it has them all.
func (a *author) free() string {
	for _, name := range a.shuffled(strings.Fields(words)) {
		if !slices.ContainsFunc(a.known, func(k known) bool { return k.name == name && k.block == a.blocks }) {
			return name
		}
	}
	return ""
}

func (a *author) statement() tree.Node {
	a.left--
	element := a.typ(1)
	truth, channel := n("bool", ""), n("chan", "", element)
	switch a.below(14) {
	case 0:
		return a.block()
	case 1, 2, 3:
		name, typ := a.free(), a.typ(2)
		if name == "" {
			return a.block()
		}
		x := n("let", name, typ, a.expr(typ))
		a.declare(name, typ)
		return x
	case 4, 5:
		typ := a.typ(1)
		return n("set", "", a.target(typ), a.expr(typ))
	case 6:
		x := n("if", "", a.expr(truth), a.block(), n("none", ""))
		if a.below(2) == 0 {
			x.Kids[2] = a.block()
		}
		return x
	case 7:
		return n("while", "", a.expr(truth), a.block())
	case 8:
		if a.result.Kind == "none" {
			return n("return", "", n("none", ""))
		}
		return n("return", "", a.expr(a.result))
	case 9:
		return n("print", "", a.expr(n("int", "")))
	case 10:
		if a.below(2) == 0 {
			return n("close", "", a.expr(channel))
		}
		return n("send", "", a.expr(channel), a.expr(element))
	case 11:
		return n("go", "", a.call(n("none", "")))
	case 12:
		return a.choices()
	}
	if a.below(3) == 0 {
		return n("do", "", n("recv", "", a.expr(channel)))
	}
	return n("do", "", a.call(a.returned()))
}

func (a *author) choices() tree.Node {
	x, other := n("select", ""), a.below(6)
	for at := range 1 + a.below(3) {
		element := a.typ(1)
		channel := a.expr(n("chan", "", element))
		switch {
		case at == other:
			x.Kids = append(x.Kids, n("default", "", a.block()))
		case a.below(2) == 0:
			name := a.one(words)
			x.Kids = append(x.Kids, n("onrecv", name, channel, a.block(known{name: name, typ: element})))
		default:
			x.Kids = append(x.Kids, n("onsend", "", channel, a.expr(element), a.block()))
		}
	}
	return x
}

// names are those of a type that may be set, or be read.
func (a *author) names(typ tree.Node, set bool) []tree.Node {
	var list []tree.Node
	for _, name := range strings.Fields(words) {
		for _, k := range slices.Backward(a.known) {
			if k.name != name {
				continue
			}
			may := k.kind == "global" || k.kind == "variable" && k.function == a.function
			if tree.Same(k.typ, typ) && (!set || may) {
				list = append(list, n("name", name))
			}
			break
		}
	}
	return list
}

// target is the left side of a set.
func (a *author) target(typ tree.Node) tree.Node {
	if list := a.names(typ, true); len(list) > 0 && a.below(4) > 0 {
		return list[a.below(len(list))]
	}
	if list := a.dots(typ); len(list) > 0 && a.below(2) > 0 {
		return list[a.below(len(list))]
	}
	return n("index", "", a.expr(n("list", "", typ)), a.expr(n("int", "")))
}

// dots are fields of a type.
func (a *author) dots(typ tree.Node) []tree.Node {
	var list []tree.Node
	for _, s := range a.structs {
		for _, field := range s.Kids {
			if tree.Same(field.Kids[0], typ) {
				list = append(list, n("dot", field.Text, a.expr(n("named", s.Text))))
			}
		}
	}
	return list
}

// call writes one that answers such a thing.
func (a *author) call(result tree.Node) tree.Node {
	var may []tree.Node
	for _, k := range a.known {
		if k.typ.Kind == "fn" && tree.Same(k.typ.Kids[0], result) {
			may = append(may, k.typ)
		}
	}
	typ := n("fn", "", result)
	if len(may) > 0 && a.below(4) > 0 {
		typ = may[a.below(len(may))]
	} else if a.below(2) == 0 {
		typ.Kids = append(typ.Kids, a.typ(1))
	}
	x := n("call", "", a.expr(typ))
	for _, param := range typ.Kids[1:] {
		x.Kids = append(x.Kids, a.expr(param))
	}
	return x
}

// expr writes an expression of a type.
func (a *author) expr(typ tree.Node) tree.Node {
	a.left--
	if list := a.names(typ, false); len(list) > 0 && a.below(3) > 0 {
		return list[a.below(len(list))]
	}
	if a.left > 0 && a.below(3) > 0 {
		if x, ok := a.longer(typ); ok {
			return x
		}
	}
	switch typ.Kind {
	case "int":
		return n("number", strconv.Itoa(a.below(100)))
	case "bool":
		return n(a.one("true false"), "")
	case "named":
		if a.below(2) == 0 {
			return n("new", typ.Text)
		}
	case "fn":
		if a.left > 0 && a.below(3) > 0 {
			return a.lambda(typ)
		}
	}
	return n("nil", "", typ)
}

func (a *author) lambda(typ tree.Node) tree.Node {
	names := a.shuffled(strings.Fields(words))
	x := n("lambda", "", n("params", ""), typ.Kids[0], tree.Node{})
	for at, param := range typ.Kids[1:] {
		x.Kids[0].Kids = append(x.Kids[0].Kids, n("param", names[at], param))
	}
	x.Kids[2] = a.body(x)
	return x
}

// longer writes an expression that has others in it.
func (a *author) longer(typ tree.Node) (tree.Node, bool) {
	integer, truth := n("int", ""), n("bool", "")
	switch a.below(6) {
	case 0:
		return a.call(typ), true
	case 1:
		return n("index", "", a.expr(n("list", "", typ)), a.expr(integer)), true
	case 2:
		return n("recv", "", a.expr(n("chan", "", typ))), true
	case 3:
		if list := a.dots(typ); len(list) > 0 {
			return list[a.below(len(list))], true
		}
	}
	switch typ.Kind {
	case "list", "chan":
		return n("make", "", typ, a.expr(integer)), true
	case "int":
		switch a.below(4) {
		case 0:
			return n("unary", "-", a.expr(integer)), true
		case 1:
			return n("len", "", a.expr(n("list", "", a.typ(1)))), true
		}
		return n("binary", a.one("+ - * / % & | ^ << >>"), a.expr(integer), a.expr(integer)), true
	case "bool":
		both := a.typ(1)
		switch a.below(4) {
		case 0:
			return n("unary", "!", a.expr(truth)), true
		case 1:
			return n("binary", a.one("== !="), a.expr(both), a.expr(both)), true
		case 2:
			return n("binary", a.one("&& ||"), a.expr(truth), a.expr(truth)), true
		}
		return n("binary", a.one("< <= > >="), a.expr(integer), a.expr(integer)), true
	}
	return tree.Node{}, false
}
