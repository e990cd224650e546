package check_test

import (
	"strings"
	"testing"
)

// P22.1, 4: params' names once, at the second.
func TestParamsOnce(t *testing.T) {
	wantGood(t,
		"func f(a int, b int, f int, main bool, S S) { } struct S { } func g(a int, b int) { } func main() { }",
		"var a int; func f(a bool) { if a { } } func main() { a = 1; }")
	wantFaults(t,
		"func f(a int, @a int) { } func main() { }",
		"func f(a int, b int, c int, @a bool, b int) { } func main() { }",
		"func f(a int, b int, @b int, a int, c int) { print true; } func main() { }",
		"func main() { } func g(a int) { } func f(a int, @a int) { y; } func h(a int, a int) { }",
		"func f(a int, @a int) int { } func main() { }")
}

// P22.1, 4: functions in order, of each its params, its block, its end.
func TestFunctionsInOrder(t *testing.T) {
	wantFaults(t,
		"func f() { print @true; } func g(a int, a int) { } func main() { }",
		"func main() { print @true; } func f() { print true; }",
		"func f() { } func g() int { print @true; } func h(a int, a int) { } func main() { print true; }",
		"func f() { } @func g() int { } func h() int { } func main() { print true; }",
		"func f() int { { return @y; } } func g() int { } func main() { }",
		"func f(a int) int { @return true; } func main() { }")
}

// P22.1, 4: Ends is asked where there is a result, and is at the func.
func TestEndsAsked(t *testing.T) {
	ends := []string{
		"return 1;", "a; return 1;", "{ return 1; }", "{ { } { return 1; } }", "if b { return 1; } else { return 2; }",
		"if b { if b { return 1; } else { return 2; } } else { { return 3; } }", "while b { } return 1;", "return 1; return 2;",
	}
	open := []string{
		"", "return 1; a;", "{ }", "{ return 1; } { }", "if b { return 1; }", "if b { return 1; } else { }", "if b { } else { return 1; }",
		"while true { return 1; }", "{ return 1; a; }", "select { default { return 1; } }", "return 1; var x int = 2;", "if b { return 1; } else { return 2; } b = true;",
	}
	for _, block := range append(ends, open...) {
		block = strings.ReplaceAll(block, "a;", "two();")
		wantGood(t, "func two() { } var b bool; func main() { } func f() { "+strings.NewReplacer("return 1", "return", "return 2", "return", "return 3", "return").Replace(block)+" }")
	}
	for _, block := range ends {
		block = strings.ReplaceAll(block, "a;", "two();")
		wantGood(t,
			"func two() { } var b bool; func f() int { "+block+" } func main() { }",
			"func two() { } var b bool; func main() { var f func() int = func() int { "+block+" }; }")
	}
	for _, block := range open {
		block = strings.ReplaceAll(block, "a;", "two();")
		wantFaults(t,
			"func two() { } var b bool; @func f() int { "+block+" } func main() { }",
			"func two() { } var b bool; func main() { } @func f(a int, b bool) int { "+block+" } func g() int { }",
			"func two() { } var b bool; func main() { var f func() int = @func() int { "+block+" }; }",
			"func two() { } var b bool; func main() { print (@func(a int) int { "+block+" })(true); }")
	}
}

// P22.1: a block's names end with it, and begin behind their lets.
func TestScopes(t *testing.T) {
	wantGoodIn(t,
		"var x int = 1; var y int = x; print x + y;",
		"{ var x int = 1; print x; } { var x bool = true; b = x; } var x S = s; s = x;",
		"var x int = 1; { var y bool = true; { var x S = s; s = x; } { var x bool = y; b = x; } print x; } print x;",
		"var x int = 1; { var x int = x + 1; { var x bool = x == 2; if x { } } print x; }",
		"if b { var x int = 1; } else { var x bool = b; } while b { var x S = s; }",
		"var gi bool = true; if gi { } { var gi S = s; gi.a = 1; } gi = false;",
		"var one bool = true; if one { }",
		"var S int = 1; var x S = new S; print S; x.a = S;",
		"var main int = 1; print main; { var i bool = b; i = b; } i = 1;",
		"while b { var x int = 1; while x == 1 { var x bool = b; b = x; } x = 2; }")
	wantFaultsIn(t,
		"print @x; var x int = 1;",
		"var x int = @x;",
		"var x func() = func() { @x(); };",
		"{ var x int = 1; } print @x;",
		"if b { var x int = 1; } else { print @x; }",
		"if b { } else { var x int = 1; } print @x;",
		"while b { var x int = 1; } print @x;",
		"while @x { var x bool = b; }",
		"{ { var x int = 1; } print @x; }",
		"var x bool = b; { var x int = 1; } print @x;",
		"{ var i bool = b; { } print @i; }",
		"{ var i bool = b; print @i; }",
		"print @S;",
		"print @nothing;",
		"print @a;",
		"var gi bool = true; print @gi;",
		"var one bool = true; one = one@();")
}

// P22.1: a name once in a block, at the let; the params are the scope of the function's block.
func TestOnceInBlock(t *testing.T) {
	wantGood(t,
		"func f(a int) { { var a bool = true; if a { } } if true { var a int = a; } } func main() { }",
		"func main() { var f func(int) = func(a int) { { var a int = a; } }; var a int = 1; f = func(b int) { var a bool = true; }; }",
		"func main() { var x int = 1; var f func(int) = func(x int) { }; var g func() = func() { var x int = x; }; }",
		"func f(f int) { print f; } func main() { var main func(int) = f; main(1); }")
	wantFaults(t,
		"func f(a int) { @var a int = 1; } func main() { }",
		"func f(a int, b int) { { var b bool = true; } @var b int = 1; } func main() { }",
		"func main() { var f func(int) = func(a int) { @var a int = 1; }; }",
		"func main() { var f func(int) = func(a int) { { var a int = 1; @var a int = 2; } }; }",
		"func main() { var x int = 1; var f func(int) = func(a int) { var x int = 1; @var x int = 1; }; }")
	wantFaultsIn(t,
		"var x int = 1; @var x int = 2;",
		"var x int = 1; @var x bool = true;",
		"@var i int = 1;",
		"var x int = 1; { } { var x int = 1; } @var x int = 2; var x int = 3;",
		"{ var x int = 1; { var x int = 2; } @var x int = 3; }",
		"if b { var x int = 1; @var x int = 1; }",
		"if b { } else { var x int = 1; @var x int = 1; }",
		"while b { var x int = 1; var y int = 1; @var x int = 1; }",
		"var x int = 1; @var x int = true;")
}

// P22.1: what is caught has its type; lambdas within lambdas catch too; what is a lambda's own hides it.
func TestCaught(t *testing.T) {
	wantGoodIn(t,
		"var g func() int = func() int { return i + gi + l[i] + s.a; };",
		"var g func() func() int = func() func() int { return func() int { return i; }; }; i = g()();",
		"var g func(int) func() int = func(i int) func() int { var x int = i; return func() int { return i + x; }; };",
		"var g func() = func() { s.a = 1; l[0] = 1; gi = 2; gs.b = true; var i bool = b; i = false; send c, 1; };",
		"var g func() = func() { var x int = i; x = 2; { x = 3; var i S = s; i = new S; } };",
		"{ var x int = 1; var g func() int = func() int { return x; }; i = g(); } var x bool = b;",
		"select { case recv v = c { var g func() int = func() int { return v; }; } default { } }",
		"h = func() { if f(i) { h(); } };",
		"var g func(int) = func(x int) { x = 2; }; g((func(x int) int { return x; })(1));",
		"var g func() = func() { var h func() = func() { var i int = 2; i = 3; }; h = nil(func()); };")
	wantFaultsIn(t,
		"var g func() int = func() int { return i @+ b; };",
		"var g func() = func() { @i = 1; };",
		"var g func() = func() { { if b { @i = 1; } } };",
		"var g func() = func() { while b { var x int = 1; x = 2; @b = false; } };",
		"var g func() func() = func() func() { return func() { @i = 1; }; };",
		"var g func(int) func() = func(i int) func() { i = 2; return func() { @i = 1; }; };",
		"var g func() func() = func() func() { var i int = 2; i = 3; return func() { @i = 1; }; };",
		"var g func() = func() { var x int = 1; }; print @x;",
		"var g func(int) = func(x int) { }; print @x;",
		"var g func() = func() { print @x; }; var x int = 1;",
		"var gi int = 1; var g func() = func() { @gi = 2; };",
		"var g func() = func() { var i bool = b; print @i; };",
		"var g func(bool) = func(i bool) { print @i; };",
		"select { case recv v = c { var g func() = func() { @v = 1; }; } }",
		"var x func(int) int = func(n int) int { return @x(n); };")
}

// P22.1: a return belongs to the innermost function.
func TestReturnOf(t *testing.T) {
	wantGood(t,
		"func f() int { var g func() bool = func() bool { return true; }; return 1; } func main() { }",
		"func f() int { var g func() = func() { return; }; return 1; } func main() { }",
		"func f() { var g func() int = func() int { return 1; }; return; } func main() { }",
		"func f() func() int { return func() int { return 1; }; } func main() { }",
		"struct S { } func f() S { { return nil(S); } } func main() { }",
		"func f() []int { if true { return nil([]int); } return make([]int, 1); } func main() { }")
	wantFaults(t,
		"func f() int { var g func() bool = func() bool { @return 1; }; return 1; } func main() { }",
		"func f() int { var g func() bool = func() bool { return true; }; @return true; } func main() { }",
		"func f() int { var g func() = func() { @return 1; }; return 1; } func main() { }",
		"func f() int { var g func() = func() { }; @return; } func main() { }",
		"func f() { var g func() int = func() int { return 1; }; @return 1; } func main() { }",
		"func f() func() int { return func() int { @return true; }; } func main() { }",
		"func f() func() int { @return func() bool { return true; }; } func main() { }",
		"struct S { } struct T { } func f() S { @return nil(T); } func main() { }",
		"func f() { @return f; } func main() { }",
		"func f() int { @return f; } func main() { }",
		"func f() int { return @y; } func main() { }",
		"func f() { return @y; } func main() { }",
		"func f() { return f@(); } func main() { }",
		"func f() int { return main@(); } func main() { }",
		"func f() { return 1 @+ true; } func main() { }")
}
