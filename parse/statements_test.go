package parse_test

import (
	"testing"

	"gantline/api"
)

// P21.1: each statement, with what may be left out there and left out.
func TestStatements(t *testing.T) {
	for _, p := range []pair{
		{"{ }", "block"},
		{"{ { } { } }", "block(block block)"},
		{"{ print 1; { print 2; } }", "block(print(number:1) block(print(number:2)))"},
		{"var x int = 1;", "let:x(int number:1)"},
		{"var x []S = y;", "let:x(list(named:S) name:y)"},
		{"if a { }", "if(name:a block none)"},
		{"if a { } else { }", "if(name:a block block)"},
		{"if a { b; } else { c; }", "if(name:a block(do(name:b)) block(do(name:c)))"},
		{"if a { if b { } else { } }", "if(name:a block(if(name:b block block)) none)"},
		{"if a { if b { } } else { }", "if(name:a block(if(name:b block none)) block)"},
		{"if a { } else { if b { } }", "if(name:a block block(if(name:b block none)))"},
		{"if a { } if b { }", "if(name:a block none) if(name:b block none)"},
		{"if a { } { }", "if(name:a block none) block"},
		{"if func() { } { }", "if(lambda(params none block) block none)"},
		{"while a { }", "while(name:a block)"},
		{"while a < b { a = a + 1; }", "while(binary:<(name:a name:b) block(set(name:a binary:+(name:a number:1))))"},
		{"return;", "return(none)"},
		{"return 1;", "return(number:1)"},
		{"return func() { };", "return(lambda(params none block))"},
		{"print 1;", "print(number:1)"},
		{"close c;", "close(name:c)"},
		{"go f();", "go(call(name:f))"},
		{"send c, 1;", "send(name:c number:1)"},
		{"send c[0], recv(d);", "send(index(name:c number:0) recv(name:d))"},
		{"a;", "do(name:a)"},
		{"f();", "do(call(name:f))"},
		{"recv(c);", "do(recv(name:c))"},
		{"(a);", "do(name:a)"},
		{"-a;", "do(unary:-(name:a))"},
		{"func() { }();", "do(call(lambda(params none block)))"},
		{"a = b;", "set(name:a name:b)"},
		{"a[0] = b;", "set(index(name:a number:0) name:b)"},
		{"a.x = b.y;", "set(dot:x(name:a) dot:y(name:b))"},
		{"f() = 1;", "set(call(name:f) number:1)"},
		{"1 = 2;", "set(number:1 number:2)"},
		{"a == b = c == d;", "set(binary:==(name:a name:b) binary:==(name:c name:d))"},
		{"func() { } = func() { };", "set(lambda(params none block) lambda(params none block))"},
	} {
		wantStatements(t, p.text, p.want)
		wantStatements(t, "a; "+p.text+" a;", "do(name:a) "+p.want+" do(name:a)")
	}
}

// P21.1: a select, with each of its cases, in any order and any number.
func TestSelects(t *testing.T) {
	for _, p := range []pair{
		{"select { }", "select"},
		{"select{}", "select"},
		{"select { case recv v = c { } }", "select(onrecv:v(name:c block))"},
		{"select { case recv v = f(1).c { print v; } }", "select(onrecv:v(dot:c(call(name:f number:1)) block(print(name:v))))"},
		{"select { case recv v = recv(c) { } }", "select(onrecv:v(recv(name:c) block))"},
		{"select { case send c, 1 { } }", "select(onsend(name:c number:1 block))"},
		{"select { case send c, 1 + 2 { print 1; } }", "select(onsend(name:c binary:+(number:1 number:2) block(print(number:1))))"},
		{"select { default { } }", "select(default(block))"},
		{"select { default { print 1; } default { } }", "select(default(block(print(number:1))) default(block))"},
		{"select { default { } case send c, d { } case recv v = c { } case send c, d { } }", "select(default(block) onsend(name:c name:d block) onrecv:v(name:c block) onsend(name:c name:d block))"},
		{"select { case recv v = c { select { } } }", "select(onrecv:v(name:c block(select)))"},
	} {
		wantStatements(t, p.text, p.want)
	}
}

// P21.1: go is there with a call, whatever brackets are around it; with any other expression it is a fault at its end.
func TestGo(t *testing.T) {
	for _, p := range []pair{
		{"f()", "call(name:f)"},
		{"f(1, 2)", "call(name:f number:1 number:2)"},
		{"a.b[c]()", "call(index(dot:b(name:a) name:c))"},
		{"f()()", "call(call(name:f))"},
		{"f().g()", "call(dot:g(call(name:f)))"},
		{"(f())", "call(name:f)"},
		{"((f()))", "call(name:f)"},
		{"(f)()", "call(name:f)"},
		{"(a + b)()", "call(binary:+(name:a name:b))"},
		{"func() { }()", "call(lambda(params none block))"},
		{"func(x int) int { return x; }(1)", "call(lambda(params(param:x(int)) int block(return(name:x))) number:1)"},
		{"new S()", "call(new:S)"},
	} {
		wantStatements(t, "go "+p.text+";", "go("+p.want+")")
		wantStatements(t, "go "+p.text+"\n //\n ; a;", "go("+p.want+") do(name:a)")
	}
	for _, text := range []string{"a", "1", "true", "f().x", "f()[0]", "f() + g()", "a + f()", "f() == g()", "-f()", "!f()", "(a)", "(-f())", "(f() + 1)", "len(f())", "recv(c)", "recv(f())", "make([]int, f())", "nil(S)", "new S", "func() { f(); }", "func() { go f(); }"} {
		wantMarked(t, bodyAhead+"go "+text+"@;"+bodyBehind, api.ESYNTAX)
		wantMarked(t, bodyAhead+"go "+text+" //\n @; }}} ", api.ESYNTAX)
		wantMarked(t, bodyAhead+"go "+text+"  @", api.ESYNTAX)
		wantMarked(t, bodyAhead+"go "+text+" @}", api.ESYNTAX)
		wantMarked(t, bodyAhead+"if a { go f(); go "+text+"@; go a; }"+bodyBehind, api.ESYNTAX)
	}
	wantMarked(t, bodyAhead+"go @;", api.ESYNTAX)
	wantMarked(t, bodyAhead+"go f() @}", api.ESYNTAX)
	wantMarked(t, bodyAhead+"go f() @= a;", api.ESYNTAX)
	wantMarked(t, bodyAhead+"go f()@, g();", api.ESYNTAX)
}
