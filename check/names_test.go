package check_test

import (
	"strings"
	"testing"

	"gantline/check"
	"gantline/tree"
)

// The chapter's example.
func TestExample(t *testing.T) {
	wantFaults(t, "func main() { print @true; }")
}

// P22.1, 1: a struct's, a global's or a func's name once among all of them, at the second one.
func TestNamesOnce(t *testing.T) {
	of := []string{"struct x { }", "var x int;", "func x() { }"}
	for _, first := range of {
		wantGood(t, "func main() { } "+first, first+" func main() { }")
		for _, second := range of {
			wantFaults(t,
				first+"@"+second+" func main() { }",
				"struct a { x int; } "+first+" var b int; func c(x int) { var x2 int = x; } @"+second+" func main() { }",
				first+" func main() { } struct a { } @"+second+" "+first,
				first+" @"+second+" "+second+first)
		}
	}
	wantFaults(t,
		"func main() { } @func main() { }",
		"func main() { } @struct main { }",
		"var main int; @func main() { }",
		"struct a { } var b int; func c() { } @var c int; struct b { } func a() { } func main() { }",
		"func c() { } var b int; struct a { } @struct b { } var a int; struct c { } func main() { }",
		"func f() { }\n// again\n@func f() { } func main() { }")
}

// P22.1, 1: names are as their bytes are.
func TestNamesThatAreOthers(t *testing.T) {
	long := strings.Repeat("x", 63)
	wantGood(t,
		"func main() { } func Main() { } func main_() { } var MAIN int; struct mai { } var _main int;",
		"func main() { } var "+long+" int; var "+long+"x int; var "+long+"y int; struct "+long+"X { }")
	wantFaults(t, "func main() { } var "+long+"y int; var "+long+"x int; @struct "+long+"y { }")
}

// P22.1, 1: fields' names once in a struct, at the second; two structs may have one.
func TestFieldsOnce(t *testing.T) {
	wantGood(t,
		"struct S { a int; b int; S int; main bool; } struct T { a bool; b S; T T; } var a int; func b() { } func main() { }",
		"struct S { } struct T { } func main() { }")
	wantFaults(t,
		"struct S { a int; @a int; } func main() { }",
		"struct S { a int; b int; c int; @a bool; } func main() { }",
		"struct S { a int; b int; @b int; a bool; b S; } func main() { }",
		"struct S { a int; } struct T { a int; b int; @b int; } func main() { }",
		"func main() { } var a int; struct S { a int; b int; } struct T { b int; a int; @a T; } struct U { c int; c int; }",
		"struct S { b int; a int; @a int; b int; } struct T { a int; a int; } func main() { }")
}

// P22.1, 1: the declarations' names are asked ahead of all fields.
func TestNamesAheadOfFields(t *testing.T) {
	wantFaults(t,
		"struct S { a int; a int; } func main() { } @var S int;",
		"struct S { a int; a int; } @struct S { a int; a int; } func main() { }",
		"struct S { a int; a int; } var g int; var h int; func main() { } @var g bool;")
}

// P22.1, 2: each place where a type may stand.
func TestTypePlaces(t *testing.T) {
	places := []string{
		"var g %; func main() { }",
		"struct S { a int; b %; c S; } func main() { }",
		"func f(a %) { } func main() { }",
		"func f(a int, b bool, c %) { } func main() { }",
		"func f() % { while true { } return nil(%); } func main() { }",
		"func main() { var x % = nil(%); }",
		"func main() { var x % = nil(%); { { var y % = x; } } }",
		"func main() { if nil(%) == nil(%) { } }",
		"func main() { var c chan % = make(chan %, 1); }",
		"func main() { print len(make([]%, 1)); }",
		"func main() { (func(a %) { })(nil(%)); }",
		"func main() { (func() % { return nil(%); })(); }",
		"func main() { (func() { var x % = nil(%); })(); }",
		"func main() { if true { while true { select { default { var x % = nil(%); } } } } }",
		"func main() { if true { } else { var x % = nil(%); } }",
		"func main() { select { case recv v = nil(chan %) { } } }",
		"func main() { send make(chan %, 2), nil(%); }",
		"func main() { if false && nil(%) == nil(%) { } }",
	}
	sorts := []string{"#", "[]#", "chan #", "func() #", "func(#)", "func(int, #)", "func(int, bool) #", "[]chan []#", "func(func(#) int) bool", "chan func(int) []#"}
	for _, place := range places {
		for _, sort := range sorts {
			wantGood(t, "struct N { } "+strings.ReplaceAll(strings.ReplaceAll(place, "%", sort), "#", "N"))
			for _, name := range []string{"No", "n", "g", "f", "a", "v", "x", "main"} {
				text := strings.ReplaceAll(strings.ReplaceAll(strings.Replace(place, "%", strings.Replace(sort, "#", "@#", 1), 1), "%", sort), "#", name)
				wantFaults(t, "struct N { } var no int; "+text)
			}
		}
	}
}

// P22.1, 2: the first in the tree's order, which has a result ahead of a fn's types; a struct may stand behind.
func TestTypeOrder(t *testing.T) {
	wantGood(t,
		"var g N; struct S { a N; b S; } func f(a N) S { return a.s; } struct N { n N; s S; } func main() { var x N = nil(N); }",
		"struct main2 { a main2; } func main() { }")
	wantFaults(t,
		"var g @A; struct S { a B; } func f(a C) D { } func main() { nil(E); }",
		"func main() { nil(@E); } func f(a C) D { } struct S { a B; } var g A;",
		"func f(a @C, b B) D { var x E = nil(F); } func main() { }",
		"func f(a int) @D { var x E = nil(F); } func main() { }",
		"func f() { var x @E = nil(F); } func main() { }",
		"func f() { var x int = nil(@F); } func main() { }",
		"func f() { make([]@A, nil(B)); nil(C); } func main() { }",
		"func f() { make(int, nil(@B)); nil(C); } func main() { }",
		"func main() { if nil(@A) == nil(B) { nil(C); } else { nil(D); } }",
		"func main() { g(nil(@B), nil(C)); nil(A); }",
		"func main() { (func(a @A) B { nil(C); })(nil(D)); }",
		"var g func(A, B) @C; func main() { }",
		"var g func(int, @B, C) int; func main() { }",
		"var g func(func(A) @B); func main() { }",
		"var g func(func(@A), B); func main() { }",
		"func f() func(A) @B { } func main() { }")
}

// P22.1, 3: a func main without params and result, else at the last kid.
func TestMain(t *testing.T) {
	wantGood(t, "func main() { }", "func f() { } func main() { return; } func g() { }", "func main() { } struct S { a int; } var g int;")
	wantFaults(t,
		"@func f() { }",
		"@func Main() { }",
		"@struct main { }",
		"@var main int;",
		"@var main func();",
		"@func main() int { return 1; }",
		"@func main(a int) { }",
		"@func main(a int, b bool) int { return 1; }",
		"func main() int { return 1; } @func f() { }",
		"func f() { } @func main(a int) { }",
		"func f() { } var g int; @struct S { a int; b int; }",
		"struct S { main func(); } func f() { var main func() = f; } @var g int;",
		" // the first\n func main(a int) { } // the last\n @var g int; // and its end\n")
}

// P22.1, 3: of a program without kids it is at the program's place.
func TestMainOfNothing(t *testing.T) {
	for _, text := range []string{"", "  ", "\n// nothing\n", " // nothing\n\t"} {
		wantFault(t, text, len(text))
	}
	for _, at := range []int{0, 1, 77} {
		if got, e := check.Check(tree.Node{Kind: "program", At: at}); got != at || e == 0 {
			t.Errorf("Check of no declarations at %d: error %d at %d", at, e, got)
		}
	}
}

// P22.1: the rules ask one behind the other, whatever stands where.
func TestRulesInOrder(t *testing.T) {
	wantFaults(t,
		"func f() { print true; } var g A; struct S { a int; a int; } func f2() { } @var f2 int;",
		"func f() { print true; } var g A; struct S { a int; @a int; } func f2() { }",
		"func f() { print true; } var g @A; struct S { a int; } func f2() { }",
		"func f() { print true; } var g int; struct S { a int; } @func f2(a int, a int) { }",
		"func f() { print @true; } var g int; struct S { a int; } func f2(a int, a int) { } func main() { }",
		"func main(a int) int { y; nil(@A); }",
		"@func main(a int) int { y; }")
}
