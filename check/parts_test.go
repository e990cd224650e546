package check_test

import (
	"reflect"
	"testing"

	"gantline/check"
	"gantline/tree"
)

// n makes a node.
func n(kind, text string, kids ...tree.Node) tree.Node {
	return tree.Node{Kind: kind, Text: text, Kids: kids}
}

// body is the block of a function with such statements.
func body(t *testing.T, statements string) tree.Node {
	t.Helper()
	return read(t, "func f() { "+statements+" }").Kids[0].Kids[2]
}

// P22.1, Ends: what the last statement is.
func TestEnds(t *testing.T) {
	for _, ends := range []string{
		"return;", "return 1;", "return f();", "a; return;", "return; return;", "while a { } return;", "{ return; }", "{ { { return 1; } } }", "{ a; { b; return; } }", "{ } { return; }",
		"if a { return; } else { return; }", "if a { b; return; } else { { return; } }", "if a { if a { return; } else { return; } } else { return; }",
		"if a { return; } else { if a { return; } else { return; } }", "{ if a { return 1; } else { { c; return 2; } } }", "if a { } return;",
	} {
		if !check.Ends(body(t, ends)) {
			t.Errorf("Ends(%s) is false", ends)
		}
	}
	for _, open := range []string{
		"", "a;", "return; a;", "return; { }", "return; if a { }", "{ }", "{ a; }", "{ return; a; }", "{ return; } a;", "{ { return; } { } }", "if a { return; }", "if a { return; } else { }", "if a { } else { return; }", "if a { } else { }",
		"if a { return; } else { a; }", "if a { a; } else { return; }", "if a { return; } else { if a { return; } }", "if a { if a { return; } } else { return; }", "while true { return; }", "while a { return; }",
		"select { default { return; } }", "select { case recv v = c { return; } }", "var f func() = func() { return; };", "a = func() { return; };", "(func() { return; })();", "go (func() { return; })();", "print 1;", "close c;", "send c, 1;", "recv(c);",
	} {
		if check.Ends(body(t, open)) {
			t.Errorf("Ends(%s) is true", open)
		}
	}
}

// P22.1, Ends: of what is no block, or not as the table has it, nothing ends.
func TestEndsOfOthers(t *testing.T) {
	back := n("return", "", n("none", ""))
	block := n("block", "", back)
	yes := n("name", "a")
	if !check.Ends(block) || !check.Ends(n("block", "", n("if", "", yes, block, block))) {
		t.Error("Ends is false")
	}
	for _, x := range []tree.Node{
		{}, back, n("none", ""), n("func", "f", n("params", ""), n("none", ""), block), n("if", "", yes, block, block), n("what", "", back), n("program", "", back), n("default", "", block),
		n("block", "", n("if", "")), n("block", "", n("if", "", yes)), n("block", "", n("if", "", yes, block)), n("block", "", n("if", "", yes, block, back)), n("block", "", n("if", "", yes, back, block)),
		n("block", "", n("if", "", yes, block, n("none", ""))), n("block", "", n("if", "", yes, block, n("none", "", back))), n("block", "", n("if", "", yes, block, block, block)), n("block", "", n("what", "")), n("block", "", tree.Node{}),
		n("block", "", n("while", "", yes, block)), n("block", "", n("default", "", block)), n("block", "", n("select", "", n("default", "", block))), n("block", "", back, n("block", "")),
	} {
		if check.Ends(x) {
			t.Errorf("Ends(%v) is true", x)
		}
	}
}

// P22.2, Type: what tree's Show writes.
func TestType(t *testing.T) {
	for _, typ := range []string{"int", "bool", "S", "[]int", "[][]S", "chan int", "chan []bool", "[]chan S", "func()", "func() int", "func(int)", "func(int, S) []int", "func(func(int) bool, chan func()) func(S)"} {
		p := read(t, "var g "+typ+"; func f(a "+typ+") "+typ+" { var x "+typ+" = nil( "+typ+" ); }")
		let := p.Kids[1].Kids[2].Kids[0]
		for _, x := range []tree.Node{p.Kids[0].Kids[0], p.Kids[1].Kids[0].Kids[0].Kids[0], p.Kids[1].Kids[1], let.Kids[0], let.Kids[1].Kids[0]} {
			if got := check.Type(x); got != typ || got != tree.Show(x) {
				t.Errorf("Type: %q, want %q", got, typ)
			}
		}
	}
	for _, x := range []tree.Node{{}, n("what", "int"), n("list", ""), n("list", "", n("number", "1")), n("list", "", n("what", "")), n("none", "")} {
		if got := check.Type(x); got != tree.Show(x) {
			t.Errorf("Type of %v: %q", x, got)
		}
	}
}

// P22.2, Fields: of the first struct of that name, none, if there is none.
func TestFields(t *testing.T) {
	p := read(t, "var S2 int; struct T { c chan T; } struct S { a int; b []S; a2 func(S, int) bool; a T; } func S3() { } struct E { } struct S { c int; } struct T { d int; e int; } struct Last { x int; }")
	for name, at := range map[string]int{"S": 2, "T": 1, "E": 4, "Last": 7} {
		got := check.Fields(p, name)
		if len(got) != len(p.Kids[at].Kids) || len(got) > 0 && !reflect.DeepEqual(got, p.Kids[at].Kids) {
			t.Errorf("Fields of %s: %v", name, got)
		}
	}
	for _, name := range []string{"", "S2", "S3", "a", "b", "s", "U", "T ", "int", "struct"} {
		if got := check.Fields(p, name); got != nil {
			t.Errorf("Fields of %q: %v", name, got)
		}
	}
	for _, x := range []tree.Node{{}, n("program", ""), p.Kids[2], p.Kids[3], n("program", "", n("what", "S", n("field", "a", n("int", ""))))} {
		if got := check.Fields(x, "S"); got != nil {
			t.Errorf("Fields of what has no S: %v", got)
		}
	}
}
