package parse_test

import (
	"strings"
	"testing"

	"gantline/api"
	"gantline/tree"
)

// nest is what stands in itself: each mark @ is the first word that is one deeper than the mark ahead of it.
type nest struct{ ahead, more, inside, back, behind string }

// text writes it so many times within itself.
func (n nest) text(times int) string {
	return n.ahead + strings.Repeat(n.more, times) + n.inside + strings.Repeat(n.back, times) + n.behind
}

const most = 60 // deep

// wantNests wants just so deep to be taken, and all that is deeper to be refused at the first word that is too deep.
func wantNests(t *testing.T, nests []nest) {
	t.Helper()
	for _, n := range nests {
		just, past := false, false
		for times := range 70 {
			text, places := marked(n.text(times))
			if len(places) <= most {
				read(t, text)
				just = just || len(places) > most-8
				continue
			}
			wantFault(t, text, api.ELIMIT, places[most])
			past = true
		}
		if !just || !past {
			t.Errorf("not just so deep, or not too deep: %v", n)
		}
	}
}

// inBody is a nest of statements, within a function's block.
func inBody(more, inside, back string) nest {
	return nest{"func f() @{ ", more, inside, back, " }"}
}

// inExpr is a nest of an expression.
func inExpr(more, inside, back string) nest {
	return nest{"func f() @{ print ", more, inside, back, "; }"}
}

// P21.1: blocks within blocks, each at its brace.
func TestDeepBlocks(t *testing.T) {
	wantNests(t, []nest{
		inBody("@{ ", "", "} "),
		inBody("@{ a; ", "a;", "} a; "),
		inBody("if a @{ ", "", "} "),
		inBody("if a @{ ", "", "} else { } "),
		inBody("if a @{ } else { ", "", "} "),
		inBody("while a @{ ", "", "} "),
		inBody("select { case recv v = c @{ ", "", "} } "),
		inBody("select { case send c, d @{ ", "", "} } "),
		inBody("select { default @{ ", "", "} } "),
		inBody("select { case recv v = c @{ } default { } case send c, d { ", "", "} default { } } "),
		inBody("@{ } if a { } else { } { ", "", " } { } "),
		inBody("func() @{ ", "", "}; "),
		inBody("a = func() @int { ", "", "}; "),
		inExpr("func(a @int, b S) { return ", "a", "; }"),
		inExpr("func() @{ return ", "a", "; }"),
	})
}

// P21.1: types within types, each at its first word, wherever they stand.
func TestDeepTypes(t *testing.T) {
	for _, around := range []nest{
		{ahead: "var g ", behind: ";"},
		{ahead: "struct S { a int; b ", behind: "; }"},
		{ahead: "func f(a int, b ", behind: ") { }"},
		{ahead: "func f() ", behind: " { }"},
		{ahead: "func f() @{ var x ", behind: " = a; }"},
		{ahead: "func f() @{ nil(", behind: "); }"},
		{ahead: "func f() @{ make(", behind: ", a); }"},
		{ahead: "func f() @{ func(a int, b ", behind: ") { }; }"},
		{ahead: "func f() @{ func() ", behind: " { }; }"},
		{ahead: "func f() @{ (@a[@nil(", behind: ")]); }"},
	} {
		for _, n := range []nest{
			{more: "@[]", inside: "@int"},
			{more: "@[ ]", inside: "@S"},
			{more: "@chan ", inside: "@bool"},
			{more: "@func(", inside: "@int", back: ")"},
			{more: "@func(", inside: "@func()", back: ")"},
			{more: "@func(", inside: "@S", back: ", int, S) bool"},
			{more: "@func() ", inside: "@int"},
			{more: "@func() ", inside: "@func()"},
			{more: "@chan @[]@func(", inside: "@int", back: ")"},
			{more: "@[]@func() @chan ", inside: "@S"},
		} {
			n.ahead, n.behind = around.ahead, around.behind
			wantNests(t, []nest{n})
		}
	}
}

// P21.1: expressions in brackets of each kind, each at its first word; brackets without anything are no deeper.
func TestDeepBrackets(t *testing.T) {
	for _, inside := range []string{"a", "7", "true", "false", "nil(@S)", "new S", "func() @{ }", "func(a @int) { }", "a + b", "a.b", "a()", "a()()[@0]", "@-a", "@!a.b()", "a * @-b"} {
		wantNests(t, []nest{
			inExpr("(@", inside, ")"),
			inExpr("f(@", inside, ")"),
			inExpr("f(@a, b, ", inside, ", c)"),
			inExpr("(@f)(", inside, ")"),
			inExpr("a[@", inside, "]"),
			inExpr("a.b[@", inside, "].c()"),
			inExpr("len(@", inside, ")"),
			inExpr("recv(@", inside, ")"),
			inExpr("make(@int, ", inside, ")"),
			inExpr("a + b * (@", inside, ") - c"),
			inExpr("a == (@", inside, ")"),
		})
	}
}

// P21.1: signs ahead, each at the sign, and what they stand ahead of within.
func TestDeepSigns(t *testing.T) {
	for _, inside := range []string{"a", "7", "(@a)", "a(@b)", "a[@b]", "a.b", "a()", "a + b", "recv(@c)", "func() @{ }", "nil(@int)"} {
		wantNests(t, []nest{
			inExpr("@-", inside, ""),
			inExpr("@!", inside, ""),
			inExpr("@- @! ", inside, ""),
			{"func f() @{ print a - ", "@-", inside, "", " - -b; }"},
			{"func f() @{ print a == b * ", "@!", inside, "", "; }"},
		})
	}
}

// P21.1: blocks, types, brackets and signs within one another.
func TestDeepMixed(t *testing.T) {
	wantNests(t, []nest{
		inBody("@{ if a @{ while b @{ select { default @{ ", "", "} } } } } "),
		inBody("while recv(@c) { y = func() @{ ", "", "}; } "),
		inBody("if (@a)[b] { } else { ", "", "} "),
		inExpr("@-(@", "a", ")"),
		inExpr("(@@-", "a", ")"),
		inExpr("f(@a[@@-(@@!g.h(@len(@", "a", ")))])"),
		inExpr("func() @{ return (@@-", "a", "); }"),
		inExpr("a[@func(x @int) { print f(@g)(", "b", "); }]"),
		inExpr("a[@func(x @int) { print f(@g)(", "nil(@[]@int)", "); }]"),
		inExpr("@-make(@int, func() @{ return ", "a", "; })"),
	})
}

// P21.1: what is closed counts no more: behind it is as much room as there was.
func TestDeepAgain(t *testing.T) {
	rep := strings.Repeat
	brackets := rep("(", most-1) + "a" + rep(")", most-1)
	signs := rep("-", most-1) + "a"
	lambda := "func() " + rep("{ ", most-1) + rep("} ", most-1)
	calls := rep("f(", most) + rep(")", most)
	blocks := rep("{ ", most-1) + rep("} ", most-1)
	let := "var x " + rep("[]", most-2) + "int = a; "
	all := ""
	for _, one := range []string{brackets, signs, lambda, calls} {
		for _, other := range []string{brackets, signs, lambda, calls} {
			text := "print " + one + " + " + other + "; "
			read(t, bodyAhead+text+bodyBehind)
			all += text + blocks + let
		}
	}
	read(t, bodyAhead+all+bodyBehind)
	wantMarked(t, bodyAhead+all+"print "+rep("(", most)+"@a"+rep(")", most)+";"+bodyBehind, api.ELIMIT)
}

// P21.1: of a word that fits nothing and of one that is too deep the first is told; where one word is both, it fits nothing.
func TestDeepOrFault(t *testing.T) {
	deep := "print " + strings.Repeat("(", most)
	for _, text := range []string{deep + "@a", deep + "@a;", deep + "@-;", deep + "@(", deep + "@func", deep + "@new", deep + "@a a", "a; " + deep + "@a; ; a a"} {
		wantMarked(t, bodyAhead+text, api.ELIMIT)
		wantMarked(t, bodyAhead+text+" a ; } ] ( x", api.ELIMIT)
	}
	for _, text := range []string{"@; " + deep + "a", "a @a; " + deep + "a", "f(a @b, c); " + deep + "a", "go a@; " + deep + "a", deep[:len(deep)-1] + "a @a)", deep + "@;", deep + "@)", deep + "@]", deep + "@{", deep + "@", deep + "@=", deep + "@int", "a[" + strings.Repeat("(", most-1) + "@]"} {
		wantMarked(t, bodyAhead+text, api.ESYNTAX)
	}
	types := "var g " + strings.Repeat("[]", most)
	wantMarked(t, types+"@int;", api.ELIMIT)
	wantMarked(t, types+"@[;", api.ELIMIT)
	wantMarked(t, types+"@;", api.ESYNTAX)
	wantMarked(t, types+"@7", api.ESYNTAX)
	wantMarked(t, types+"@", api.ESYNTAX)
	wantMarked(t, "var g int @int; "+types+"int;", api.ESYNTAX)
	blocks := bodyAhead + strings.Repeat("{ ", most-1)
	wantMarked(t, blocks+"@{", api.ELIMIT)
	wantMarked(t, blocks+"while a @{", api.ELIMIT)
	wantMarked(t, blocks+"while a @;", api.ESYNTAX)
	wantMarked(t, blocks+"if @{", api.ESYNTAX)
	wantMarked(t, blocks+"func() @{ }", api.ELIMIT)
	wantMarked(t, blocks+"func(a @int) { }", api.ELIMIT)
	wantMarked(t, blocks+"func(a @) { }", api.ESYNTAX)
	wantMarked(t, blocks+"func() @int", api.ELIMIT)
	wantMarked(t, blocks+"select { default @{ } }", api.ELIMIT)
	wantMarked(t, blocks+"select { default @} }", api.ESYNTAX)
}

// P21.1: chains of operators, calls, indexes and dots are no deeper for their length, however much stands around them.
func TestChains(t *testing.T) {
	const length = 2000
	links := []string{".b", "()", "(a)", "[0]"}
	for _, row := range operators() {
		for _, sign := range strings.Fields(row) {
			if rowOf(sign) != comparisons {
				links = append(links, sign+"a", sign+"-a", sign+"(a)")
			}
		}
	}
	for _, link := range links {
		x := read(t, exprAhead+"a"+strings.Repeat(link, length)+exprBehind)
		if deep := tree.Deep(x.Kids[0].Kids[2].Kids[0].Kids[0]); deep < length {
			t.Errorf("%d of %s: %d deep", length, link, deep)
		}
		room := (api.MaxSource - 200) / len(link)
		around := exprAhead + strings.Repeat("(", most-2) + "a" + strings.Repeat(link, room) + strings.Repeat(")", most-2) + exprBehind
		read(t, around)
	}
	for _, text := range []string{"a; ", "{ } ", "if a { } ", "print (a); ", "var x []int = -a; ", "select { } "} {
		read(t, bodyAhead+strings.Repeat(text, 900)+bodyBehind)
	}
	read(t, strings.Repeat("var g []int; ", 1000))
	read(t, "struct S { "+strings.Repeat("a []int; ", 1000)+"}")
	read(t, "func f(a int"+strings.Repeat(", a []int", 1000)+") { }")
	read(t, "var g func(int"+strings.Repeat(", []int", 1000)+");")
	read(t, exprAhead+"f(a"+strings.Repeat(", (-a)", 1000)+")"+exprBehind)
	read(t, bodyAhead+"select { "+strings.Repeat("case send (a), -b { } ", 600)+"}"+bodyBehind)
}
