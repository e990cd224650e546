package parse_test

import (
	"slices"
	"strings"

	"gantline/tree"
)

// dice tells numbers that look like chance, and are always the same.
type dice uint64

func (d *dice) below(n int) int {
	*d = *d*6364136223846793005 + 1442695040888963407
	return int(uint64(*d) >> 33 % uint64(n))
}

// one is one of some words.
func (d *dice) one(words string) string {
	list := strings.Fields(words)
	return list[d.below(len(list))]
}

// author writes programs by chance, along the grammar: their words, and the trees that these are. Where a node stands is the number of its word.
type author struct {
	dice
	words  []string
	eager  int // in 100 choices, how often there is more
	budget int // of words; past it there is no more
	deep   int
	over   int // the first word that is too deep; -1, if there is none
}

func newAuthor(seed, eager, budget int) *author {
	return &author{dice: dice(seed), eager: eager, budget: budget, over: -1}
}

func (a *author) more() bool {
	return len(a.words) < a.budget && a.below(100) < a.eager
}

// node is one that stands where the next word does, its kids still to come.
func (a *author) node(kind string) tree.Node {
	return tree.Node{Kind: kind, At: len(a.words)}
}

// put writes words.
func (a *author) put(words string) {
	a.words = append(a.words, strings.Fields(words)...)
}

// name writes a name.
func (a *author) name() string {
	name := a.one("a b c S T main program block none name iff in int1 _ x_9 Func New default_ " + strings.Repeat("n", 64))
	a.put(name)
	return name
}

// deeper writes what is one deeper, and begins with the next word.
func (a *author) deeper(part func() tree.Node) tree.Node {
	a.deep++
	if a.deep > most && a.over < 0 {
		a.over = len(a.words)
	}
	x := part()
	a.deep--
	return x
}

// list writes so many parts, with commas between.
func (a *author) list(parts int, part func() tree.Node) []tree.Node {
	var list []tree.Node
	for i := range parts {
		if i > 0 {
			a.put(",")
		}
		list = append(list, part())
	}
	return list
}

// some is how many parts a list has.
func (a *author) some() int {
	n := 0
	for n < 4 && a.more() && a.below(2) == 0 {
		n++
	}
	return n
}

func (a *author) program() tree.Node {
	x := a.node("program")
	x.At = 0
	for a.below(5) > 0 {
		x.Kids = append(x.Kids, a.declaration())
	}
	return x
}

func (a *author) declaration() tree.Node {
	switch a.below(6) {
	case 0:
		x := a.node("struct")
		a.put("struct")
		x.Text = a.name()
		a.put("{")
		for range a.some() {
			x.Kids = append(x.Kids, a.typed("field", "", " ;"))
		}
		a.put("}")
		return x
	case 1:
		return a.typed("global", "var", ";")
	}
	x := a.node("func")
	a.put("func")
	x.Text = a.name()
	x.Kids = a.signature()
	return x
}

// typed writes a name with its type, and what is ahead and behind.
func (a *author) typed(kind, ahead, behind string) tree.Node {
	x := a.node(kind)
	a.put(ahead)
	x.Text = a.name()
	x.Kids = []tree.Node{a.typ()}
	a.put(behind)
	return x
}

// signature writes params, a result or none, and a block.
func (a *author) signature() []tree.Node {
	a.put("(")
	params := a.node("params")
	params.Kids = a.list(a.some(), func() tree.Node { return a.typed("param", "", "") })
	a.put(")")
	result := a.result()
	return []tree.Node{params, result, a.block()}
}

func (a *author) result() tree.Node {
	if a.below(2) == 0 {
		return a.node("none")
	}
	return a.typ()
}

func (a *author) typ() tree.Node {
	return a.deeper(func() tree.Node {
		kind := a.one("int bool named")
		if a.more() {
			kind = a.one("list chan fn")
		}
		x := a.node(kind)
		switch kind {
		case "named":
			x.Text = a.name()
		case "list":
			a.put("[ ]")
			x.Kids = []tree.Node{a.typ()}
		case "chan":
			a.put("chan")
			x.Kids = []tree.Node{a.typ()}
		case "fn":
			a.put("func (")
			types := a.list(a.some(), a.typ)
			a.put(")")
			x.Kids = append([]tree.Node{a.result()}, types...)
		default:
			a.put(kind)
		}
		return x
	})
}

func (a *author) block() tree.Node {
	return a.deeper(func() tree.Node {
		x := a.node("block")
		a.put("{")
		for range a.some() {
			x.Kids = append(x.Kids, a.statement())
		}
		a.put("}")
		return x
	})
}

func (a *author) statement() tree.Node {
	kind := a.one("let set set if if while return print close go send select do do block")
	if kind == "block" {
		return a.block()
	}
	x := a.node(kind)
	switch kind {
	case "let":
		a.put("var")
		x.Text = a.name()
		x.Kids = []tree.Node{a.typ()}
		a.put("=")
		x.Kids = append(x.Kids, a.expr())
	case "set":
		left := a.expr()
		x.At = len(a.words)
		a.put("=")
		x.Kids = []tree.Node{left, a.expr()}
	case "if", "while":
		a.put(kind)
		x.Kids = []tree.Node{a.expr(), a.block()}
		if kind == "if" {
			x.Kids = append(x.Kids, a.otherwise())
		}
		return x
	case "return":
		a.put("return")
		x.Kids = []tree.Node{a.node("none")}
		if a.below(2) == 0 {
			x.Kids[0] = a.expr()
		}
	case "go":
		a.put("go")
		x.Kids = []tree.Node{a.call(a.prim())}
	case "send":
		a.put("send")
		x.Kids = a.list(2, a.expr)
	case "select":
		a.put("select {")
		for range a.some() {
			x.Kids = append(x.Kids, a.choice())
		}
		a.put("}")
		return x
	case "do":
		x.Kids = []tree.Node{a.expr()}
	default:
		a.put(kind)
		x.Kids = []tree.Node{a.expr()}
	}
	a.put(";")
	return x
}

func (a *author) otherwise() tree.Node {
	if a.below(2) == 0 {
		return a.node("none")
	}
	a.put("else")
	return a.block()
}

func (a *author) choice() tree.Node {
	x := a.node(a.one("onrecv onsend default"))
	switch x.Kind {
	case "onrecv":
		a.put("case recv")
		x.Text = a.name()
		a.put("=")
		x.Kids = []tree.Node{a.expr()}
	case "onsend":
		a.put("case send")
		x.Kids = a.list(2, a.expr)
	default:
		a.put("default")
	}
	x.Kids = append(x.Kids, a.block())
	return x
}

func (a *author) expr() tree.Node { return a.joined(0) }

// joined writes what the operators of a row may join.
func (a *author) joined(row int) tree.Node {
	if row == len(operators()) {
		return a.unary()
	}
	x := a.joined(row + 1)
	for a.below(8) == 0 && a.more() {
		n := a.node("binary")
		n.Text = a.one(operators()[row])
		a.put(n.Text)
		n.Kids = []tree.Node{x, a.joined(row + 1)}
		x = n
		if row == comparisons {
			break
		}
	}
	return x
}

func (a *author) unary() tree.Node {
	if !a.more() || a.below(4) > 0 {
		return a.post()
	}
	return a.deeper(func() tree.Node {
		x := a.node("unary")
		x.Text = a.one("- !")
		a.put(x.Text)
		x.Kids = []tree.Node{a.unary()}
		return x
	})
}

func (a *author) post() tree.Node {
	x := a.prim()
	for a.more() && a.below(3) == 0 {
		switch n := a.node(a.one("call index dot")); n.Kind {
		case "call":
			x = a.call(x)
		case "index":
			n.Kids = append([]tree.Node{x}, a.inside("[", "]"))
			x = n
		case "dot":
			a.put(".")
			n.Text = a.name()
			n.Kids = []tree.Node{x}
			x = n
		}
	}
	return x
}

// call writes what is behind what it calls.
func (a *author) call(of tree.Node) tree.Node {
	x := a.node("call")
	a.put("(")
	args := a.list(a.some(), func() tree.Node { return a.inside("", "") })
	a.put(")")
	x.Kids = append([]tree.Node{of}, args...)
	return x
}

// inside writes an expression in brackets.
func (a *author) inside(opening, closing string) tree.Node {
	a.put(opening)
	x := a.deeper(a.expr)
	a.put(closing)
	return x
}

func (a *author) prim() tree.Node {
	kind := a.one("number name name name true false new nil")
	if a.more() {
		kind = a.one("make len recv lambda brackets brackets")
	}
	x := a.node(kind)
	switch kind {
	case "brackets":
		return a.inside("(", ")")
	case "number":
		x.Text = a.one("0 7 12 007 4611686018427387903")
		a.put(x.Text)
	case "name":
		x.Text = a.name()
	case "new":
		a.put("new")
		x.Text = a.name()
	case "nil":
		a.put("nil (")
		x.Kids = []tree.Node{a.typ()}
		a.put(")")
	case "make":
		a.put("make (")
		x.Kids = []tree.Node{a.typ()}
		x.Kids = append(x.Kids, a.inside(",", ")"))
	case "lambda":
		a.put("func")
		x.Kids = a.signature()
	case "len", "recv":
		a.put(kind)
		x.Kids = []tree.Node{a.inside("(", ")")}
	default:
		a.put(kind)
	}
	return x
}

// text lays words out, with blanks and remarks between by chance, and tells where each stands, and the end.
func (d *dice) text(words []string) (string, []int) {
	var places []int
	text := ""
	for i, word := range words {
		if i > 0 {
			text += d.gap(words[i-1], word)
		} else if d.below(3) == 0 {
			text += "\n "
		}
		places = append(places, len(text))
		text += word
	}
	if d.below(3) == 0 {
		text += " // end"
	}
	return text, append(places, len(text))
}

// gap is what may stand between two words.
func (d *dice) gap(ahead, behind string) string {
	signs := "( ) { } [ ] , ;"
	if d.below(3) > 0 && (slices.Contains(strings.Fields(signs), ahead) || slices.Contains(strings.Fields(signs), behind)) {
		return ""
	}
	return []string{" ", " ", " ", "  ", "\n", "\t", "\r\n", " // ; }\n", "\n// #\n\n "}[d.below(9)]
}

// placed is a tree whose nodes stand where their words do.
func placed(x tree.Node, places []int) tree.Node {
	y := tree.Node{Kind: x.Kind, Text: x.Text, At: places[x.At]}
	for _, kid := range x.Kids {
		y.Kids = append(y.Kids, placed(kid, places))
	}
	return y
}
