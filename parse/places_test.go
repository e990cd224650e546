package parse_test

import (
	"strings"
	"testing"
)

// place is a Kind, and a text in which marks @ stand wherever a node of that Kind stands.
type place struct{ kind, text string }

func wantAll(t *testing.T, places []place) {
	t.Helper()
	for _, p := range places {
		wantPlaces(t, p.kind, p.text)
	}
}

// P21.1: a binary, a call, an index, a dot, a set stand where their sign does.
func TestPlacesOfSigns(t *testing.T) {
	wantAll(t, []place{
		{"call", "func f() { f  @(1); }"},
		{"call", "func f() { f@()@(1)@(g@()); }"},
		{"call", "func f() { go (f)@(); }"},
		{"call", "func f() { a.b[c@()]; }"},
		{"index", "func f() { a @[1]; }"},
		{"index", "func f() { a@[b@[0]]@[1]; }"},
		{"dot", "func f() { a @.  b; }"},
		{"dot", "func f() { a@.b@.c(d@.e); }"},
		{"set", "func f() { a @= b; }"},
		{"set", "func f() { a.b[c](d)\n @= (b); (a) @= a == b; }"},
		{"set", "func f() { func() { a @= b; } @= c; }"},
		{"binary", "func f() { (a) @+ (b); }"},
		{"binary", "func f() { ((a @+ b) @* c); }"},
		{"binary", "func f() { a @|| b @&& c @== d @+ e @* f; }"},
		{"binary", "func f() { a @- -b @- - -c; }"},
	})
	for _, row := range operators() {
		for _, sign := range strings.Fields(row) {
			wantPlaces(t, "binary", "func f() { a // \n @"+sign+" b; print (a)@"+sign+"b; }")
		}
	}
}

// P21.1: expressions of other Kinds stand where their first word does, brackets around them left out.
func TestPlacesOfExpressions(t *testing.T) {
	wantAll(t, []place{
		{"unary", "func f() { @-a; (@-(@!(a))); }"},
		{"unary", "func f() { a - @- @! b; }"},
		{"number", "func f() { @1; (( @2 )); a[@3]; @4 + @5; }"},
		{"name", "func f() { @a; ((@b)); @c.d; @e(@g)[@h]; -@i; @j = @k; }"},
		{"true", "func f() { @true; (@true); false; }"},
		{"false", "func f() { @false; (@false); true; }"},
		{"nil", "func f() { @nil(S); ( @nil([]nil2)).a; }"},
		{"new", "func f() { @new S; (@new S)(); @new S.a; }"},
		{"make", "func f() { @make([]int, 1); (@make(chan int, len(@make([]int, 2)))); }"},
		{"len", "func f() { @len(a); (@len(@len(a))); }"},
		{"recv", "func f() { @recv(c); (@recv( @recv(c)))(); select { case recv v = @recv(c) { } } }"},
		{"lambda", "func f() { @func() { }; (@func() { @func() { }(); })(); }"},
		{"lambda", "func f() { var g func() = @func() { }; }"},
	})
}

// P21.1: statements and cases stand where their first word does, a bracket too.
func TestPlacesOfStatements(t *testing.T) {
	wantAll(t, []place{
		{"block", "func f() int @{ if a @{ } else @{ @{ } } while a\n@{ } select { default @{ } case recv v = c @{ } } }"},
		{"block", "func f() @{ func() int @{ }; }"},
		{"let", "func f() { @var x int = 1; { @var x int = 1; } }"},
		{"if", "func f() { @if a { @if b { } } else { @if c { } else { } } }"},
		{"while", "func f() { @while a { @while b { } } }"},
		{"return", "func f() { @return; { @return 1; } }"},
		{"print", "func f() { @print 1; @print (2); }"},
		{"close", "func f() { @close c; @close(d); }"},
		{"go", "func f() { @go f(); @go (g)(); }"},
		{"send", "func f() { @send c, 1; select { case send c, 2 { @send d, 3; } } }"},
		{"select", "func f() { @select { } @select { default { @select { } } } }"},
		{"onrecv", "func f() { select { @case recv v = c { } case send c, d { } @case  recv v = c { } } }"},
		{"onsend", "func f() { select { case recv v = c { } @case // \n send c, d { } default { } } }"},
		{"default", "func f() { select { case recv v = c { } @default { } @default { } } }"},
		{"do", "func f() { @a; @(a); @(a)(b); @a.b[c]; @-a; @a + b; @func() { @a; }; }"},
		{"do", "func f() { @recv(c); @((a) + (b)); @new S; a = b; @1; }"},
	})
}

// P21.1: declarations, fields, params and types stand where their first word does.
func TestPlacesOfDeclarations(t *testing.T) {
	wantAll(t, []place{
		{"struct", "@struct S { } var g int; //\n @struct T { a int; }"},
		{"field", "struct S { @a int; @b []int;@c func(int); }"},
		{"global", "@var g int; func f() { var x int = 1; } @var h []int;"},
		{"func", "@func f() { func() { }; } @func f(a func()) func() { }"},
		{"param", "func f(@a int, @b func(int), @c S) { func(@a int) { }; }"},
		{"int", "var g @int; struct S { a @int; b []@int; c func(@int, @int) @int; } func f(a @int) @int { var a @int = nil(@int); make(@int, 1); }"},
		{"bool", "var g @bool; var h func(chan @bool) @bool;"},
		{"named", "var g @S; struct S { a @S; b []@T; } func f(a @S) @S { func() chan @S { }; new S; }"},
		{"list", "var g @[]int; var h @[ ] @[]S; var i chan @[]int; var j func(@[]int) @[]int;"},
		{"chan", "var g @chan int; var h @chan @chan S; var i []@chan int; var j func(@chan int) @chan int;"},
		{"fn", "var g @func(); var h @func(@func() @func(int)) []@func(); func f() { func() @func() { }; }"},
	})
}

// P21.1: a program, params without any and a none stand where the next word does; params with some where the first of them does.
func TestPlacesOfNothing(t *testing.T) {
	wantAll(t, []place{
		{"program", "@"},
		{"program", "  \n// a\n @"},
		{"program", " //\n @var g int;"},
		{"program", "@func f() { }"},
		{"params", "func f(@) { func( @a int) { }; func( //\n@) { }; }"},
		{"params", "func f(@a int, b int) { }"},
		{"none", "func f()  @{ }"},
		{"none", "func f() int { }"},
		{"none", "func f() @{ func() //\n @{ }; func() int { }; }"},
		{"none", "func f() int { return @; }"},
		{"none", "func f() int { return\n\n @; return 1; }"},
		{"none", "func f() int { if a { } @}"},
		{"none", "func f() int { if a { } @a; if a { } @(b); if a { if b { } @} else { } }"},
		{"none", "func f() int { if a { } // else \n @if b { } else { } }"},
		{"none", "var g func() @; var h func(func()@, int, func() @) int; struct S { a func()@; }"},
		{"none", "func f() int { var x func() @= nil(func()@); make(func()@, 1); }"},
		{"none", "func f(g func()@, h func() @) func() @{ }"},
	})
	wantPlaces(t, "params", "func f( @a int) { func(@a int) { }; }")
}
