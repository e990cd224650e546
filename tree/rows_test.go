package tree_test

import (
	"testing"

	"gantline/tree"
)

// written is a tree, and what Show writes of it.
type written struct {
	tree tree.Node
	want string
}

func wantAll(t *testing.T, list []written) {
	t.Helper()
	for _, w := range list {
		wantShow(t, w.tree, w.want)
	}
}

// The chapter's example.
func TestExample(t *testing.T) {
	wantShow(t, n("binary", "+", n("number", "1"), n("number", "2")), "(1 + 2)")
}

// P20.1: Show of a program and of what is declared.
func TestShowDeclarations(t *testing.T) {
	global := n("global", "g", integer)
	two := n("params", "", n("param", "x", integer), n("param", "y", truth))
	wantAll(t, []written{
		{n("program", ""), ""},
		{n("program", "", global), "var g int;\n"},
		{n("program", "", n("struct", "S"), global, n("func", "main", noOne, none, empty), global), "struct S { }\nvar g int;\nfunc main() { }\nvar g int;\n"},
		{n("struct", "S"), "struct S { }"},
		{n("struct", "S", n("field", "f", integer)), "struct S { f int; }"},
		{n("struct", "S", n("field", "f", integer), n("field", "g", n("named", "S")), n("field", "f", n("chan", "", truth))), "struct S { f int; g S; f chan bool; }"},
		{n("field", "f", integer), " f int;"},
		{n("field", "f", n("list", "", truth)), " f []bool;"},
		{global, "var g int;"},
		{n("global", "h", n("fn", "", none)), "var h func();"},
		{n("func", "f", noOne, none, empty), "func f() { }"},
		{n("func", "f", noOne, truth, empty), "func f() bool { }"},
		{n("func", "f", two, none, prints), "func f(x int, y bool) { print 2; }"},
		{n("func", "f", two, n("fn", "", none, integer), prints), "func f(x int, y bool) func(int) { print 2; }"},
		{noOne, ""},
		{n("params", "", n("param", "x", integer)), "x int"},
		{two, "x int, y bool"},
		{n("params", "", n("param", "x", integer), n("param", "x", integer), n("param", "z", n("list", "", integer))), "x int, x int, z []int"},
		{n("param", "x", integer), "x int"},
		{n("param", "y", n("named", "T")), "y T"},
		{none, ""},
	})
}

// P20.1: Show of types.
func TestShowTypes(t *testing.T) {
	wantAll(t, []written{
		{integer, "int"},
		{truth, "bool"},
		{n("named", "Tree"), "Tree"},
		{n("list", "", integer), "[]int"},
		{n("list", "", n("list", "", n("named", "T"))), "[][]T"},
		{n("chan", "", integer), "chan int"},
		{n("chan", "", n("chan", "", n("list", "", truth))), "chan chan []bool"},
		{n("fn", "", none), "func()"},
		{n("fn", "", integer), "func() int"},
		{n("fn", "", none, truth), "func(bool)"},
		{n("fn", "", integer, truth), "func(bool) int"},
		{n("fn", "", none, truth, integer, n("named", "T")), "func(bool, int, T)"},
		{n("fn", "", n("list", "", integer), truth, integer, truth), "func(bool, int, bool) []int"},
		{n("fn", "", n("fn", "", n("fn", "", none)), n("fn", "", none, integer), n("fn", "", integer)), "func(func(int), func() int) func() func()"},
	})
}

// P20.1: Show of statements.
func TestShowStatements(t *testing.T) {
	call := n("call", "", a, two)
	wantAll(t, []written{
		{empty, "{ }"},
		{prints, "{ print 2; }"},
		{n("block", "", empty, n("do", "", a), n("block", "", empty, empty)), "{ { } a; { { } { } } }"},
		{n("let", "x", integer, two), "var x int = 2;"},
		{n("let", "x", n("named", "T"), n("nil", "", n("named", "T"))), "var x T = nil(T);"},
		{n("set", "", a, two), "a = 2;"},
		{n("set", "", n("dot", "f", a), n("index", "", a, two)), "a.f = a[2];"},
		{n("if", "", a, empty, none), "if a { }"},
		{n("if", "", a, prints, none), "if a { print 2; }"},
		{n("if", "", a, empty, empty), "if a { } else { }"},
		{n("if", "", a, empty, prints), "if a { } else { print 2; }"},
		{n("while", "", n("true", ""), prints), "while true { print 2; }"},
		{n("return", "", none), "return;"},
		{n("return", "", two), "return 2;"},
		{n("print", "", two), "print 2;"},
		{n("close", "", a), "close a;"},
		{n("go", "", call), "go a(2);"},
		{n("go", "", n("call", "", n("lambda", "", noOne, none, empty))), "go (func() { })();"},
		{n("send", "", a, two), "send a, 2;"},
		{n("do", "", call), "a(2);"},
		{n("do", "", n("recv", "", a)), "recv(a);"},
		{n("do", "", two), "2;"},
	})
}

// P20.1: Show of a select and of its cases.
func TestShowSelects(t *testing.T) {
	onrecv, onsend, other := n("onrecv", "v", a, empty), n("onsend", "", a, two, prints), n("default", "", empty)
	wantAll(t, []written{
		{n("select", ""), "select { }"},
		{n("select", "", onrecv), "select { case recv v = a { } }"},
		{n("select", "", onsend), "select { case send a, 2 { print 2; } }"},
		{n("select", "", other), "select { default { } }"},
		{n("select", "", other, onsend, onrecv, onrecv, other), "select { default { } case send a, 2 { print 2; } case recv v = a { } case recv v = a { } default { } }"},
		{onrecv, "case recv v = a { }"},
		{n("onrecv", "v", n("call", "", a), prints), "case recv v = a() { print 2; }"},
		{onsend, "case send a, 2 { print 2; }"},
		{other, "default { }"},
		{n("default", "", prints), "default { print 2; }"},
	})
}

// P20.1: Show of expressions.
func TestShowExpressions(t *testing.T) {
	sum := n("binary", "+", a, two)
	params := n("params", "", n("param", "x", integer), n("param", "y", truth))
	wantAll(t, []written{
		{two, "2"},
		{n("number", "007"), "007"},
		{n("true", ""), "true"},
		{n("false", ""), "false"},
		{n("nil", "", n("named", "T")), "nil(T)"},
		{n("nil", "", n("fn", "", none)), "nil(func())"},
		{a, "a"},
		{sum, "(a + 2)"},
		{n("binary", "-", sum, n("binary", "&&", two, sum)), "((a + 2) - (2 && (a + 2)))"},
		{n("unary", "-", two), "(- 2)"},
		{n("unary", "!", n("unary", "-", sum)), "(! (- (a + 2)))"},
		{n("call", "", a), "a()"},
		{n("call", "", a, two), "a(2)"},
		{n("call", "", a, two, sum, n("call", "", a)), "a(2, (a + 2), a())"},
		{n("call", "", n("call", "", a, two), two), "a(2)(2)"},
		{n("index", "", a, two), "a[2]"},
		{n("index", "", n("index", "", a, sum), n("index", "", a, a)), "a[(a + 2)][a[a]]"},
		{n("dot", "f", a), "a.f"},
		{n("dot", "g", n("dot", "f", sum)), "(a + 2).f.g"},
		{n("new", "T"), "new T"},
		{n("make", "", n("list", "", integer), two), "make([]int, 2)"},
		{n("make", "", n("chan", "", truth), sum), "make(chan bool, (a + 2))"},
		{n("len", "", a), "len(a)"},
		{n("recv", "", n("recv", "", a)), "recv(recv(a))"},
		{n("lambda", "", noOne, none, empty), "(func() { })"},
		{n("lambda", "", noOne, integer, prints), "(func() int { print 2; })"},
		{n("lambda", "", params, none, prints), "(func(x int, y bool) { print 2; })"},
		{n("lambda", "", params, truth, empty), "(func(x int, y bool) bool { })"},
	})
}

// P20.1: each Text stands as it is, also an empty one, and one that could be taken for something else.
func TestShowTexts(t *testing.T) {
	for _, x := range []string{"", "x", "12", " ", "\n", "$", "*", "0", "1 2", "$0*1", "%s", "{}", "none", "a, b", "é", "\x00\xff", "\\n", "int"} {
		wantAll(t, []written{
			{n("struct", x), "struct " + x + " { }"},
			{n("struct", x, n("field", x, integer)), "struct " + x + " { " + x + " int; }"},
			{n("field", x, integer), " " + x + " int;"},
			{n("global", x, integer), "var " + x + " int;"},
			{n("func", x, noOne, none, empty), "func " + x + "() { }"},
			{n("func", x, n("params", "", n("param", x, integer)), n("named", x), empty), "func " + x + "(" + x + " int) " + x + " { }"},
			{n("param", x, integer), x + " int"},
			{n("params", "", n("param", x, integer), n("param", x, truth)), x + " int, " + x + " bool"},
			{n("named", x), x},
			{n("list", "", n("named", x)), "[]" + x},
			{n("let", x, integer, two), "var " + x + " int = 2;"},
			{n("onrecv", x, a, empty), "case recv " + x + " = a { }"},
			{n("number", x), x},
			{n("name", x), x},
			{n("binary", x, a, two), "(a " + x + " 2)"},
			{n("unary", x, two), "(" + x + " 2)"},
			{n("dot", x, a), "a." + x},
			{n("new", x), "new " + x},
			{n("call", "", n("name", x), n("number", x)), x + "(" + x + ")"},
		})
	}
}

// P20.1: the Text of a Kind whose row names none is not written, nor where a node stands.
func TestShowTextsThatRowsLack(t *testing.T) {
	for _, kind := range []string{"program", "params", "none", "int", "bool", "list", "chan", "fn", "block", "set", "if", "while", "return", "print", "close", "go", "send", "select", "onsend", "default", "do", "true", "false", "nil", "call", "index", "make", "len", "recv", "lambda"} {
		x := sample(kind)
		x.Text = ""
		want := tree.Show(x)
		for _, text := range []string{"x", "$", "0", "int", " "} {
			x.Text, x.At = text, len(text)
			wantShow(t, x, want)
		}
	}
}
