package tree_test

import (
	"slices"
	"strings"
	"testing"

	"gantline/tree"
)

// P20.1: of a node of another Kind nothing is written, whatever its Text and kids.
func TestShowStrangeKinds(t *testing.T) {
	for _, kind := range strange() {
		wantAll(t, []written{{n(kind, ""), ""}, {n(kind, "x"), ""}, {n(kind, "x", a), ""}, {n(kind, "", integer), ""}, {n(kind, "", a, empty, none), ""}, {n(kind, "", n("block", "", empty)), ""}})
	}
}

// P20.1: the node without anything, and nodes whose Kids are nil or empty.
func TestShowEmpty(t *testing.T) {
	wantShow(t, tree.Node{}, "")
	wantShow(t, tree.Node{Kids: []tree.Node{}}, "")
	wantShow(t, tree.Node{Kids: []tree.Node{{}}}, "")
	wantShow(t, tree.Node{Kind: "block", Kids: []tree.Node{{}}}, "")
	alone := map[string]string{"struct": "struct t { }", "block": "{ }", "select": "select { }", "int": "int", "bool": "bool", "named": "t", "number": "t", "true": "true", "false": "false", "name": "t", "new": "new t"}
	for _, kind := range append(kinds(), strange()...) {
		wantShow(t, tree.Node{Kind: kind, Text: "t"}, alone[kind])
		wantShow(t, tree.Node{Kind: kind, Text: "t", Kids: []tree.Node{}}, alone[kind])
		wantShow(t, tree.Node{Kind: kind, Text: "t", Kids: make([]tree.Node, 0, 5)}, alone[kind])
		wantShow(t, tree.Node{Kind: kind, Text: "t", Kids: sample(kind).Kids[:0]}, alone[kind])
	}
}

// P20.1: a node with fewer kids than its row has, or with more.
func TestShowNumberOfKids(t *testing.T) {
	p := newPlain()
	for _, r := range rows() {
		x := sample(r.kind)
		for less := range x.Kids {
			y := x
			y.Kids = x.Kids[:less]
			wantShow(t, y, p.show(y, 0))
			if less < len(r.kids) {
				wantShow(t, y, "")
			}
			y.Kids = x.Kids[less+1:]
			wantShow(t, y, p.show(y, 0))
		}
		for more := 1; more < 5; more++ {
			for _, kind := range append(kinds(), strange()...) {
				y := x
				y.Kids = append(slices.Clone(x.Kids), slices.Repeat([]tree.Node{sample(kind)}, more)...)
				wantShow(t, y, p.show(y, 0))
				if !slices.Contains(strings.Fields(r.more), kind) {
					wantShow(t, y, "")
				}
			}
		}
	}
}

// P20.1: a node of each row, in each kid's place a kid of each Kind, those that the row does not name too.
func TestShowKindsOfKids(t *testing.T) {
	p := newPlain()
	for _, r := range rows() {
		x := sample(r.kind)
		for at := range x.Kids {
			may := r.more
			if at < len(r.kids) {
				may = r.kids[at]
			}
			for _, kind := range append(kinds(), strange()...) {
				y := x
				y.Kids = slices.Clone(x.Kids)
				y.Kids[at] = sample(kind)
				wantShow(t, y, p.show(y, 0))
				if !slices.Contains(strings.Fields(may), kind) {
					wantShow(t, y, "")
				}
			}
		}
	}
}

// P20.1: a kid that the row does not name, at any place among many that it does.
func TestShowOneAmongMany(t *testing.T) {
	for _, kind := range []string{"program", "struct", "params", "block", "select", "fn", "call"} {
		x := sample(kind)
		x.Kids = append(x.Kids, slices.Repeat(x.Kids[len(x.Kids)-1:], 9)...)
		if tree.Show(x) == "" {
			t.Errorf("Show of %s with %d kids: nothing", kind, len(x.Kids))
		}
		for at := range x.Kids {
			for _, other := range []tree.Node{{}, n("what", ""), n("program", "")} {
				y := x
				y.Kids = slices.Clone(x.Kids)
				y.Kids[at] = other
				wantShow(t, y, "")
			}
		}
	}
}

// P20.1: where a kid is such as its row has not, nothing stands in its place, and all else stands.
func TestShowNothingInItsPlace(t *testing.T) {
	noType, noSum, noPrint, noStruct := n("list", ""), n("binary", "+", a), n("print", "", integer), n("struct", "S", a)
	noBlock := n("block", "", n("what", ""))
	wantAll(t, []written{
		{n("program", "", noStruct, n("global", "g", integer), noStruct), "\nvar g int;\n\n"},
		{n("struct", "S", n("field", "f"), n("field", "g", truth), n("field", "h", a)), "struct S { g bool; }"},
		{n("struct", "S", n("field", "f", noType)), "struct S { f ; }"},
		{n("field", "f", noType), " f ;"},
		{n("global", "g", noType), "var g ;"},
		{n("func", "f", n("params", "", a), integer, empty), "func f() int { }"},
		{n("func", "f", noOne, noType, empty), "func f()  { }"},
		{n("func", "f", noOne, none, noBlock), "func f() "},
		{n("func", "f", n("params", "", a), noType, noBlock), "func f()  "},
		{n("func", "f", noOne, n("none", "", a), empty), "func f() { }"},
		{n("params", "", n("param", "x"), n("param", "y", integer), n("param", "z"), n("param", "w", a)), ", y int, , "},
		{n("param", "x", noType), "x "},
		{n("list", "", noType), "[]"},
		{n("chan", "", noType), "chan "},
		{n("fn", "", noType), "func() "},
		{n("fn", "", none, noType, integer, noType), "func(, int, )"},
		{n("block", "", noPrint, empty, noPrint), "{  { }  }"},
		{n("let", "x", noType, noSum), "var x  = ;"},
		{n("set", "", noSum, noSum), " = ;"},
		{n("if", "", noSum, noBlock, none), "if  "},
		{n("if", "", a, noBlock, noBlock), "if a  else "},
		{n("if", "", a, empty, n("none", "", a)), "if a { }"},
		{n("while", "", noSum, noBlock), "while  "},
		{n("return", "", noSum), "return ;"},
		{n("return", "", n("none", "", a)), "return;"},
		{n("print", "", noSum), "print ;"},
		{n("close", "", noSum), "close ;"},
		{n("go", "", n("call", "")), "go ;"},
		{n("send", "", noSum, noSum), "send , ;"},
		{n("select", "", n("default", ""), n("default", "", empty), n("onrecv", "v", a)), "select {  default { }  }"},
		{n("onrecv", "v", noSum, noBlock), "case recv v =  "},
		{n("onsend", "", noSum, noSum, noBlock), "case send ,  "},
		{n("default", "", noBlock), "default "},
		{n("do", "", noSum), ";"},
		{n("nil", "", noType), "nil()"},
		{n("binary", "+", noSum, n("binary", "+", a, noSum)), "( + (a + ))"},
		{n("unary", "-", noSum), "(- )"},
		{n("call", "", noSum), "()"},
		{n("call", "", noSum, noSum, a, noSum), "(, a, )"},
		{n("index", "", noSum, noSum), "[]"},
		{n("dot", "f", noSum), ".f"},
		{n("make", "", noType, noSum), "make(, )"},
		{n("len", "", noSum), "len()"},
		{n("recv", "", n("number", "1", a)), "recv()"},
		{n("lambda", "", n("params", "", a), noType, noBlock), "(func()  )"},
		{n("lambda", "", noOne, none, noBlock), "(func() )"},
	})
}

// P20.1: only the part that does not fit is left out, however deep it lies.
func TestShowPartDeepBelow(t *testing.T) {
	for _, bad := range []tree.Node{n("binary", "+", a), n("number", "1", a), n("call", ""), n("nil", "", a), n("name", "x", none), n("lambda", "", noOne, empty)} {
		x := n("if", "", bad, n("block", "", n("do", "", n("call", "", a, bad)), n("while", "", n("unary", "!", bad), n("block", "", n("return", "", bad)))), none)
		wantShow(t, n("program", "", n("func", "f", noOne, none, n("block", "", x))), "func f() { if  { a(); while (! ) { return ; } } }\n")
	}
}
