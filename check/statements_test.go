package check_test

import "testing"

// P22.1, let: E, then its type is the same, at the let.
func TestLet(t *testing.T) {
	for _, e := range someTyped() {
		for _, typ := range someTyped() {
			text := "var x " + typ.typ + " = " + e.text + ";"
			if e.typ == typ.typ {
				wantGoodIn(t, text)
			} else {
				wantFaultsIn(t, "@"+text, "{ { } @"+text+" }")
			}
		}
	}
	wantFaultsIn(t,
		"var x int = @y;",
		"var x int = 1 @+ b;",
		"var x int = two@(i, b);",
		"@var x int = i < i;",
		"var i bool = @y;")
}

// P22.1, set: the left, the right, then the same type, at the set.
func TestSet(t *testing.T) {
	lefts := []typed{
		{"i", "int"}, {"gi", "int"}, {"b", "bool"}, {"gb", "bool"}, {"s", "S"}, {"gs", "S"}, {"gs.s.s", "S"}, {"t", "T"},
		{"l", "[]int"}, {"s.l", "[]int"}, {"l[0]", "int"}, {"s.l[i]", "int"}, {"m[i]", "bool"}, {"nil([]S)[1]", "S"}, {"nil([][]int)[1]", "[]int"},
		{"c", "chan int"}, {"s.c", "chan bool"}, {"f", "func(int) bool"}, {"s.f", "func(int) bool"}, {"gf", "func(int) bool"}, {"h", "func()"},
		{"s.a", "int"}, {"t.a", "bool"}, {"of(s).a", "bool"}, {"(new T).a", "bool"}, {"make([]int, 1)[0]", "int"}, {"recv(nil(chan S)).b", "bool"},
	}
	for _, left := range lefts {
		for _, right := range someTyped() {
			if left.typ == right.typ {
				wantGoodIn(t, left.text+" = "+right.text+";")
			} else {
				wantFaultsIn(t, left.text+" @= "+right.text+";")
			}
		}
		wantFaultsIn(t,
			left.text+" = @y;",
			left.text+" = 1 @+ b;",
			left.text+" = two@(i, b);")
	}
}

// P22.1, set: a left side that is another Kind, or a name that may not be set, is at it, whatever is in it or stands right.
func TestSetOfOthers(t *testing.T) {
	for _, right := range []string{"1", "y", "b", "s", "two(i, b)", "b + b", "1 + y"} {
		wantFaultsIn(t,
			"@1 = "+right+";",
			"@true = "+right+";",
			"@false = "+right+";",
			"@nil(S) = "+right+";",
			"@nil(int) = "+right+";",
			"i @+ i = "+right+";",
			"y @== z = "+right+";",
			"@-i = "+right+";",
			"@!y = "+right+";",
			"one@() = "+right+";",
			"y@() = "+right+";",
			"l[0]@(y) = "+right+";",
			"@new S = "+right+";",
			"@new Y = "+right+";",
			"@make([]int, 1) = "+right+";",
			"@make(int, y) = "+right+";",
			"@len(l) = "+right+";",
			"@len(y) = "+right+";",
			"@recv(c) = "+right+";",
			"@recv(y) = "+right+";",
			"@func() { } = "+right+";",
			"@func() int { y; } = "+right+";",
			"@y = "+right+";",
			"@main = "+right+";",
			"@is = "+right+";",
			"@S = "+right+";",
			"@a = "+right+";")
	}
	wantFaultsIn(t,
		"@y[0] = z;", "l[@y] = z;", "l[@b] = z;", "i@[0] = z;", "i@[b] = z;", "i[@y] = z;", "main@()[0] = y;", "@y.a = z;", "s@.y = z;", "i@.a = z;", "main@().a = z;", "l[two@(i, b)] = z;",
		"@z[y] = 1;", "l[@z][y] = 1;", "@z.a.b = 1;")
}

// P22.1, if, while: E is a bool, at E, then the blocks.
func TestIfAndWhile(t *testing.T) {
	for _, e := range someTyped() {
		if e.typ == "bool" {
			wantGoodIn(t, "if "+e.text+" { }", "if "+e.text+" { } else { }", "while "+e.text+" { }")
		} else {
			wantFaultsIn(t, "if @"+e.text+" { print y; }", "if @"+e.text+" { print y; } else { print z; }", "while @"+e.text+" { print y; }")
		}
	}
	wantFaultsIn(t,
		"if i @+ i { }", "while i @+ i { }", "if @y { print z; }", "while @y { print z; }", "if two@(i, b) { }", "while two@(i, b) { }", "if one@() { }", "if s@.a { }", "while l@[0] { }",
		"if b { print @y; } else { print z; }", "if b { } else { print @z; } print y;", "while b { print @y; } print z;",
		"if b { if b { if @i { } } }", "if b { } else { if @i { } }", "while b { while @i { } }")
}

// P22.1, return: E is of the result's type, or there is none where there is none, at the return.
func TestReturn(t *testing.T) {
	for _, typ := range someTyped() {
		for _, e := range someTyped() {
			mark, in := "@", wantFaultsIn
			if e.typ == typ.typ {
				mark, in = "", wantGoodIn
			}
			in(t, "var x func() "+typ.typ+" = func() "+typ.typ+" { "+mark+"return "+e.text+"; };")
		}
		wantFaultsIn(t,
			"@return "+typ.text+";",
			"var x func() "+typ.typ+" = func() "+typ.typ+" { @return; };",
			"var x func() "+typ.typ+" = func() "+typ.typ+" { return @y; };")
	}
	wantGoodIn(t, "return;", "return; return;", "if b { return; }", "while b { return; }", "{ return; } print i;", "return; h();")
	wantFaultsIn(t, "return; print @y;", "return h@();", "return 1 @+ b;", "{ if b { @return i; } }")
}

// P22.1, print: E is an int; close: E is a chan; both at E.
func TestPrintAndClose(t *testing.T) {
	for _, e := range someTyped() {
		if e.typ == "int" {
			wantGoodIn(t, "print "+e.text+";")
		} else {
			wantFaultsIn(t, "print @"+e.text+";")
		}
		if e.typ[0] == 'c' {
			wantGoodIn(t, "close "+e.text+";", "if b { close "+e.text+"; }")
		} else {
			wantFaultsIn(t, "close @"+e.text+";", "{ close @"+e.text+"; }")
		}
	}
	wantFaultsIn(t,
		"print i @< i;", "print @y;", "print two@(i, b);", "print i + @y;", "print s@.b;", "print m@[0];", "print @!b;", "print f@(1);",
		"close @y;", "close one@();", "close two@(i, b);", "close s@.a;", "close l@[0];", "close @recv(c);", "close i @+ i;")
}

// P22.1, go: its call, then at the go, if what it calls has a result.
func TestGo(t *testing.T) {
	wantGoodIn(t, "go main();", "go two(i, b);", "go h();", "go (func(a int) { print a; })(1);", "go nil([]func())[0]();", "go two(one(), f(2));")
	wantFaultsIn(t,
		"@go one();", "@go is(1);", "@go f(1);", "@go of(s);", "@go more();", "@go more()(1);", "@go s.f(1);", "@go (func() int { return 1; })();",
		"go one@(1);", "go is(@b);", "go f(@y);", "go @y();", "go main@(1);", "go two@(i);", "go two(@b, i);", "go two(i, @i);", "go i@();", "go s@();",
		"go main@()();", "go two(h@(), b);", "if b { @go one(); }")
}

// P22.1, send: E is a chan, at E, then the second is of its element, at it.
func TestSend(t *testing.T) {
	for _, to := range someTyped() {
		for _, what := range someTyped() {
			switch {
			case to.typ == "chan "+what.typ:
				wantGoodIn(t, "send "+to.text+", "+what.text+";", "select { case send "+to.text+", "+what.text+" { } }")
			case to.typ[0] == 'c':
				wantFaultsIn(t, "send "+to.text+", @"+what.text+"; print y;", "select { case send "+to.text+", @"+what.text+" { print y; } }")
			default:
				wantFaultsIn(t, "send @"+to.text+", "+what.text+"; print y;", "select { case send @"+to.text+", "+what.text+" { print y; } }")
			}
		}
	}
	for _, c := range []string{"@i, y", "c, @y", "@y, z", "c, i @< i", "c, two@(i, b)", "two@(i, b), y", "i @+ i, y", "c, 1 @+ b", "s@.a, i", "s.c, s@.a"} {
		wantFaultsIn(t, "send "+c+";", "select { case send "+c+" { print x; } }")
	}
}

// P22.1, do: E is a call or a recv, at the do, ahead of what is in it.
func TestDo(t *testing.T) {
	wantGoodIn(t,
		"main();", "one();", "two(1, b);", "h();", "f(i);", "recv(c);", "recv(d);", "recv(nil(chan S));", "(one());", "(recv(c));", "more()(1);", "s.f(1);", "(func() { })();",
		"(func() int { return 1; })();", "nil(func())();")
	wantFaultsIn(t,
		"@1;", "@true;", "@false;", "@nil(S);", "@nil(int);", "@i;", "@y;", "@main;", "@i + i;", "@y + z;", "@main() + y;", "@-i;", "@!y;", "@-one();", "@l[0];", "@y[z];", "@one()[y];", "@s.a;", "@y.a;", "@of(s).y;",
		"@new S;", "@new Y;", "@make([]int, 1);", "@make(int, y);", "@len(l);", "@len(recv(y));", "@func() { };", "@func() int { y; };", "@(i);", "@(y + one());",
		"@y();", "i@();", "one@(1);", "main@()();", "two(i, @i);", "recv(@y);", "@recv(i);", "(@recv(i));", "recv(two@(i, b));", "{ @i; }")
}

// P22.1: a block within a block is a statement; what is wrong in it stands there.
func TestBlocks(t *testing.T) {
	wantGoodIn(t, "{ }", "{ { } { { } } }", "{ i = 1; { b = true; } print i; }")
	wantFaultsIn(t, "{ print @y; }", "{ { } { { print @y; } print z; } }", "{ i = 1; } print @y; { print z; }")
}
