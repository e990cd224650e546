package tree_test

import (
	"strings"
	"testing"

	"gantline/tree"
)

// link is a way in which nodes stand above another.
type link struct {
	name          string
	over          func(kid tree.Node) tree.Node
	deep          int    // how many nodes it lays above
	ahead, behind string // what is written ahead of the kid and behind it
	last          string // what is written in all, where the kid has 200 above
}

// typeLinks lay types above a type.
func typeLinks() []link {
	return []link{
		{"list", func(kid tree.Node) tree.Node { return n("list", "", kid) }, 1, "[]", "", "[]"},
		{"chan", func(kid tree.Node) tree.Node { return n("chan", "", kid) }, 1, "chan ", "", "chan "},
		{"fn's result", func(kid tree.Node) tree.Node { return n("fn", "", kid, truth) }, 1, "func(bool) ", "", "func() "},
		{"fn's type", func(kid tree.Node) tree.Node { return n("fn", "", none, truth, kid) }, 1, "func(bool, ", ")", "func(, )"},
	}
}

// expressionLinks lay expressions above an expression.
func expressionLinks() []link {
	return []link{
		{"unary", func(kid tree.Node) tree.Node { return n("unary", "-", kid) }, 1, "(- ", ")", "(- )"},
		{"left", func(kid tree.Node) tree.Node { return n("binary", "+", kid, a) }, 1, "(", " + a)", "( + )"},
		{"right", func(kid tree.Node) tree.Node { return n("binary", "+", a, kid) }, 1, "(a + ", ")", "( + )"},
		{"called", func(kid tree.Node) tree.Node { return n("call", "", kid, a) }, 1, "", "(a)", "()"},
		{"argument", func(kid tree.Node) tree.Node { return n("call", "", a, a, kid, a) }, 1, "a(a, ", ", a)", "(, , )"},
		{"list", func(kid tree.Node) tree.Node { return n("index", "", kid, a) }, 1, "", "[a]", "[]"},
		{"index", func(kid tree.Node) tree.Node { return n("index", "", a, kid) }, 1, "a[", "]", "[]"},
		{"dot", func(kid tree.Node) tree.Node { return n("dot", "f", kid) }, 1, "", ".f", ".f"},
		{"make", func(kid tree.Node) tree.Node { return n("make", "", integer, kid) }, 1, "make(int, ", ")", "make(, )"},
		{"len", func(kid tree.Node) tree.Node { return n("len", "", kid) }, 1, "len(", ")", "len()"},
		{"recv", func(kid tree.Node) tree.Node { return n("recv", "", kid) }, 1, "recv(", ")", "recv()"},
		{"lambda", func(kid tree.Node) tree.Node {
			return n("lambda", "", noOne, integer, n("block", "", n("return", "", kid)))
		}, 3, "(func() int { return ", "; })", "(func() int { return ; })"},
	}
}

// blockLinks lay statements above a block.
func blockLinks() []link {
	in := func(x tree.Node) tree.Node { return n("block", "", x) }
	return []link{
		{"block", in, 1, "{ ", " }", "{  }"},
		{"if", func(kid tree.Node) tree.Node { return in(n("if", "", a, kid, none)) }, 2, "{ if a ", " }", "{ if   }"},
		{"else", func(kid tree.Node) tree.Node { return in(n("if", "", a, empty, kid)) }, 2, "{ if a { } else ", " }", "{ if   else  }"},
		{"while", func(kid tree.Node) tree.Node { return in(n("while", "", a, kid)) }, 2, "{ while a ", " }", "{ while   }"},
		{"onrecv", func(kid tree.Node) tree.Node { return in(n("select", "", n("onrecv", "v", a, kid))) }, 3, "{ select { case recv v = a ", " } }", "{ select { case recv v =   } }"},
		{"onsend", func(kid tree.Node) tree.Node { return in(n("select", "", n("onsend", "", a, a, kid))) }, 3, "{ select { case send a, a ", " } }", "{ select { case send ,   } }"},
		{"default", func(kid tree.Node) tree.Node { return in(n("select", "", n("default", "", kid))) }, 3, "{ select { default ", " } }", "{ select { default  } }"},
		{"lambda", func(kid tree.Node) tree.Node { return in(n("do", "", n("lambda", "", noOne, truth, kid))) }, 3, "{ (func() bool ", "); }", "{ (func()  ); }"},
	}
}

// under lays a node under so many others: by one link as often as it goes, and by another, which lays one, for the rest.
func under(x tree.Node, l, one link, above int) tree.Node {
	for range above / l.deep {
		x = l.over(x)
	}
	for range above % l.deep {
		x = one.over(x)
	}
	return x
}

// underText is what is written of such a tree, if this is written of what lies under all the links but some.
func underText(text string, l, one link, links, ones int) string {
	text = strings.Repeat(l.ahead, links) + text + strings.Repeat(l.behind, links)
	return strings.Repeat(one.ahead, ones) + text + strings.Repeat(one.behind, ones)
}

// wantAbove wants a leaf to be written under up to 199 others, and nothing in its place under more.
func wantAbove(t *testing.T, leaf tree.Node, text string, links []link) {
	t.Helper()
	p := newPlain()
	for _, l := range links {
		for above := range 200 {
			wantShow(t, under(leaf, l, links[0], above), underText(text, l, links[0], above/l.deep, above%l.deep))
		}
		wantShow(t, under(leaf, l, links[0], 200), underText(l.last, l, links[0], 200/l.deep-1, 200%l.deep))
		for _, above := range []int{201, 202, 203, 204, 400} {
			x := under(leaf, l, links[0], above)
			wantShow(t, x, p.show(x, 0))
			if l.deep == 1 {
				wantShow(t, x, underText(l.last, l, l, 199, 0))
			}
		}
	}
}

// P20.1: a node that has 199 others above it is written, in the place of one that has 200 is nothing, along kids of each kind.
func TestShowAboveAlongEach(t *testing.T) {
	wantAbove(t, n("named", "LEAF"), "LEAF", typeLinks())
	wantAbove(t, n("number", "77"), "77", expressionLinks())
	wantAbove(t, n("block", ""), "{ }", blockLinks())
}

// P20.1: with 201 and more above, what stands in a place is what stands there with 200.
func TestShowAboveWrittenOut(t *testing.T) {
	for _, above := range []int{200, 201, 202, 1000, 60000} {
		wantShow(t, under(integer, typeLinks()[0], typeLinks()[0], above), strings.Repeat("[]", 200))
		wantShow(t, under(a, expressionLinks()[0], expressionLinks()[0], above), strings.Repeat("(- ", 200)+strings.Repeat(")", 200))
	}
	wantShow(t, under(empty, blockLinks()[0], blockLinks()[0], 200), strings.Repeat("{ ", 200)+strings.Repeat(" }", 200))
}

// P20.1: a node of each row that has 199 others above it is written with nothing in its kids' places.
func TestShowAboveEachRow(t *testing.T) {
	for _, group := range []struct {
		one  link
		want map[string]string
	}{
		{typeLinks()[0], map[string]string{"int": "int", "bool": "bool", "named": "t", "list": "[]", "chan": "chan ", "fn": "func() "}},
		{expressionLinks()[0], map[string]string{"number": "t", "true": "true", "false": "false", "nil": "nil()", "name": "t", "binary": "( t )", "unary": "(t )", "call": "()", "index": "[]", "dot": ".t", "new": "new t", "make": "make(, )", "len": "len()", "recv": "recv()", "lambda": "(func()  )"}},
		{blockLinks()[0], map[string]string{"block": "{  }", "let": "var t  = ;", "set": " = ;", "if": "if  ", "while": "while  ", "return": "return ;", "print": "print ;", "close": "close ;", "go": "go ;", "send": "send , ;", "select": "select {  }", "do": ";"}},
	} {
		for kind, want := range group.want {
			x := sample(kind)
			wantShow(t, under(x, group.one, group.one, 199), underText(want, group.one, group.one, 199, 0))
			wantShow(t, under(x, group.one, group.one, 200), underText("", group.one, group.one, 200, 0))
			wantShow(t, under(x, group.one, group.one, 201), underText("", group.one, group.one, 200, 0))
			wantShow(t, under(x, group.one, group.one, 5), underText(tree.Show(x), group.one, group.one, 5, 0))
		}
	}
}

// P20.1: a kid that is none has 200 others above it: what its row says without it is written.
func TestShowAboveNone(t *testing.T) {
	block, unary, list := blockLinks()[0], expressionLinks()[0], typeLinks()[0]
	wantShow(t, under(n("return", "", none), block, block, 199), underText("return;", block, block, 199, 0))
	wantShow(t, under(n("if", "", a, empty, none), block, block, 199), underText("if  ", block, block, 199, 0))
	wantShow(t, under(n("if", "", a, empty, empty), block, block, 199), underText("if   else ", block, block, 199, 0))
	wantShow(t, under(n("lambda", "", noOne, none, empty), unary, unary, 199), underText("(func() )", unary, unary, 199, 0))
	wantShow(t, under(n("fn", "", none, integer, integer), list, list, 199), underText("func(, )", list, list, 199, 0))
}

// P20.1: the links in any order, also under a program's func.
func TestShowAboveMixed(t *testing.T) {
	p, d, blocks, expressions, types := newPlain(), dice(200), blockLinks(), expressionLinks(), typeLinks()
	for range 300 {
		x := n("named", "leaf")
		for range d.below(70) {
			x = types[d.below(len(types))].over(x)
		}
		x = n("nil", "", x)
		for range d.below(60) {
			x = expressions[d.below(len(expressions))].over(x)
		}
		x = n("block", "", n("print", "", x))
		for tree.Deep(x) < 192+d.below(20) {
			x = blocks[d.below(len(blocks))].over(x)
		}
		wantShow(t, x, p.show(x, 0))
		x = n("program", "", n("func", "f", noOne, none, x), n("func", "g", n("params", "", n("param", "x", integer)), integer, x))
		wantShow(t, x, p.show(x, 0))
	}
}

// P20.1: it is those above that are told: beside each other there may be any number.
func TestShowManyBeside(t *testing.T) {
	x, want, bare := n("block", ""), "{", "{"
	for range 5000 {
		x.Kids, want, bare = append(x.Kids, n("print", "", a)), want+" print a;", bare+" print ;"
	}
	one := blockLinks()[0]
	wantShow(t, x, want+" }")
	wantShow(t, under(x, one, one, 197), underText(want+" }", one, one, 197, 0))
	wantShow(t, under(x, one, one, 198), underText(bare+" }", one, one, 198, 0))
	wantShow(t, under(x, one, one, 199), underText("{"+strings.Repeat(" ", 5000)+" }", one, one, 199, 0))
	wantShow(t, under(x, one, one, 200), underText("", one, one, 200, 0))
}
