package parse_test

import "testing"

// P21.1: a program is any number of declarations.
func TestProgram(t *testing.T) {
	for _, p := range []pair{
		{"", "program"},
		{" \n// nothing\n", "program"},
		{"var g int;", "program(global:g(int))"},
		{"struct S { }", "program(struct:S)"},
		{"func f() { }", "program(func:f(params none block))"},
		{"func main() { print 1 + 2; }", "program(func:main(params none block(print(binary:+(number:1 number:2)))))"},
		{"var a int; var b int;", "program(global:a(int) global:b(int))"},
		{"func f() { } struct S { } var g int; func f() { } var g int;", "program(func:f(params none block) struct:S global:g(int) func:f(params none block) global:g(int))"},
		{"var\ng//\nint//\n;", "program(global:g(int))"},
	} {
		wantTree(t, p.text, p.want)
	}
}

// P21.1: structs have any number of fields; names may come twice, which is no fault of the text.
func TestStructs(t *testing.T) {
	for _, p := range []pair{
		{"struct S { }", "program(struct:S)"},
		{"struct S{}", "program(struct:S)"},
		{"struct S { a int; }", "program(struct:S(field:a(int)))"},
		{"struct S { a int; a int; c bool; }", "program(struct:S(field:a(int) field:a(int) field:c(bool)))"},
		{"struct S { next S; list []S; c chan S; f func(S) S; }", "program(struct:S(field:next(named:S) field:list(list(named:S)) field:c(chan(named:S)) field:f(fn(named:S named:S))))"},
		{"struct S { f func(); g int; }", "program(struct:S(field:f(fn(none)) field:g(int)))"},
	} {
		wantTree(t, p.text, p.want)
	}
}

// P21.1: functions with params and without, with a result and without.
func TestFunctions(t *testing.T) {
	for _, p := range []pair{
		{"func f() { }", "program(func:f(params none block))"},
		{"func f(){}", "program(func:f(params none block))"},
		{"func f(a int) { }", "program(func:f(params(param:a(int)) none block))"},
		{"func f(a int, b bool) { }", "program(func:f(params(param:a(int) param:b(bool)) none block))"},
		{"func f(a S, a S, a []S) { }", "program(func:f(params(param:a(named:S) param:a(named:S) param:a(list(named:S))) none block))"},
		{"func f(a func(), b int) { }", "program(func:f(params(param:a(fn(none)) param:b(int)) none block))"},
		{"func f() int { }", "program(func:f(params int block))"},
		{"func f() bool { }", "program(func:f(params bool block))"},
		{"func f() S { }", "program(func:f(params named:S block))"},
		{"func f() []int { }", "program(func:f(params list(int) block))"},
		{"func f() chan int { }", "program(func:f(params chan(int) block))"},
		{"func f() func() { }", "program(func:f(params fn(none) block))"},
		{"func f() func() int { }", "program(func:f(params fn(int) block))"},
		{"func f(a int) int { return a; }", "program(func:f(params(param:a(int)) int block(return(name:a))))"},
	} {
		wantTree(t, p.text, p.want)
	}
}

// P21.1: each type.
func TestTypes(t *testing.T) {
	for _, p := range []pair{
		{"int", "int"},
		{"bool", "bool"},
		{"S", "named:S"},
		{"_", "named:_"},
		{"main", "named:main"},
		{"[]int", "list(int)"},
		{"[ ] int", "list(int)"},
		{"[][]S", "list(list(named:S))"},
		{"chan int", "chan(int)"},
		{"chan chan bool", "chan(chan(bool))"},
		{"[]chan []int", "list(chan(list(int)))"},
		{"chan []S", "chan(list(named:S))"},
		{"[]func() int", "list(fn(int))"},
		{"chan func(int)", "chan(fn(none int))"},
		{"func()", "fn(none)"},
		{"func(int)", "fn(none int)"},
		{"func(int, bool)", "fn(none int bool)"},
		{"func(int, bool, S, []int, chan int, func())", "fn(none int bool named:S list(int) chan(int) fn(none))"},
	} {
		wantType(t, p.text, p.want)
	}
}

// P21.1: a type behind a bracket is there, if the next word can begin one: of types of functions, of functions and of lambdas.
func TestResults(t *testing.T) {
	for _, p := range []pair{
		{"int", "int"},
		{"bool", "bool"},
		{"S", "named:S"},
		{"[]int", "list(int)"},
		{"chan S", "chan(named:S)"},
		{"func()", "fn(none)"},
		{"func() int", "fn(int)"},
		{"func(int) func(bool) func()", "fn(fn(fn(none) bool) int)"},
		{"", "none"},
	} {
		wantType(t, "func() "+p.text, "fn("+p.want+")")
		wantType(t, "func(int) "+p.text, "fn("+p.want+" int)")
		wantType(t, "func(func() "+p.text+")", "fn(none fn("+p.want+"))")
		wantType(t, "func(func() "+p.text+", int) bool", "fn(bool fn("+p.want+") int)")
		wantTree(t, "func f() "+p.text+"{ }", "program(func:f(params "+p.want+" block))")
		wantTree(t, "func f(a int)"+p.text+"{ }", "program(func:f(params(param:a(int)) "+p.want+" block))")
		wantTree(t, "func f(g func() "+p.text+", a int) { }", "program(func:f(params(param:g(fn("+p.want+")) param:a(int)) none block))")
		wantExpr(t, "func() "+p.text+"{ }", "lambda(params "+p.want+" block)")
		wantExpr(t, "func(a int) "+p.text+"{ }", "lambda(params(param:a(int)) "+p.want+" block)")
		wantExpr(t, "nil(func() "+p.text+")", "nil(fn("+p.want+"))")
		wantExpr(t, "make(func() "+p.text+", 1)", "make(fn("+p.want+") number:1)")
		wantStatements(t, "var x func() "+p.text+" = y;", "let:x(fn("+p.want+") name:y)")
		wantTree(t, "struct S { x func() "+p.text+"; }", "program(struct:S(field:x(fn("+p.want+"))))")
	}
}
