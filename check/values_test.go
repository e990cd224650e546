package check_test

import (
	"strings"
	"testing"
)

// wantTyped wants an expression of a main to be of that type, and of no other.
func wantTyped(t *testing.T, text, typ string) {
	t.Helper()
	wantGoodIn(t, "var x "+typ+" = "+text+";")
	seen := map[string]bool{}
	for _, other := range someTyped() {
		if other.typ != typ && !seen[other.typ] {
			wantFaultsIn(t, "@var x "+other.typ+" = "+text+";")
		}
		seen[other.typ] = true
	}
}

// P22.1: numbers, true, false, and names.
func TestSingle(t *testing.T) {
	for _, e := range []typed{{"0", "int"}, {"007", "int"}, {"4611686018427387903", "int"}, {"true", "bool"}, {"false", "bool"}} {
		wantTyped(t, e.text, e.typ)
	}
	for _, e := range someTyped() {
		wantTyped(t, e.text, e.typ)
	}
	wantFaultsIn(t, "print @y;", "print @S;", "print @a;", "print @None;", "f(@y);", "@y();")
}

// P22.1, name: the innermost variable, else a global, else a func.
func TestNameIsInnermost(t *testing.T) {
	wantGood(t,
		"var x int; func main() { x = 1; var x bool = true; { var x []int = nil([]int); x[0] = 1; } if x { } }",
		"func x(a int) bool { return true; } func main() { if x(1) { } var y func(int) bool = x; var x int = 1; print x; }",
		"func f(f bool) bool { return f; } func main() { }",
		"var g int; func f(g bool) bool { return g; } func h() { print g; } func main() { }",
		"func f() { var x int = 1; } func main() { var x bool = true; if x { } }")
	wantFaults(t,
		"func main() { print @x; } func f(x int) { }",
		"func f() { var x int = 1; } func main() { print @x; }",
		"struct x { x int; } func main() { print @x; }",
		"func x() { } func main() { var x int = 1; x@(); }",
		"var x func(); func main() { x(); var x int = 1; x@(); }")
}

// P22.1, nil: its type, which is an address.
func TestNil(t *testing.T) {
	for _, typ := range []string{"S", "T", "[]int", "[]bool", "chan int", "chan bool", "func()", "func(int)", "func(int, bool)", "func() int"} {
		wantTyped(t, "nil("+typ+")", typ)
	}
	wantFaultsIn(t, "var x int = @nil(int);", "var x bool = @nil(bool);", "print @nil(int);", "if @nil(bool) { }", "h(@nil(int));", "var x []int = @nil(int);")
}

// P22.1, binary: of which types its sides may be, and what it is.
func TestBinary(t *testing.T) {
	const ints, compares, equals, bools = "+ - * / % & | ^ << >>", "< <= > >=", "== !=", "&& ||"
	for _, group := range []struct{ signs, takes, gives string }{{ints, "int", "int"}, {compares, "int", "bool"}, {equals, "", "bool"}, {bools, "bool", "bool"}} {
		for _, sign := range strings.Fields(group.signs) {
			for _, left := range someTyped() {
				for _, right := range someTyped() {
					if left.typ == right.typ && (group.takes == "" || group.takes == left.typ) {
						wantGoodIn(t, "var x "+group.gives+" = "+left.text+" "+sign+" "+right.text+";")
					} else {
						wantFaultsIn(t, "print "+left.text+" @"+sign+" "+right.text+";")
					}
				}
				wantFaultsIn(t,
					"print @y "+sign+" "+left.text+";",
					"print "+left.text+" "+sign+" @y;",
					"print @y "+sign+" z;",
					"print two@(i, b) "+sign+" "+left.text+";",
					"print "+left.text+" "+sign+" two@(i, b);")
			}
		}
	}
	for text, typ := range map[string]string{"i + 1": "int", "i < 1": "bool", "s == gs": "bool", "i == 1": "bool", "b && true": "bool"} {
		wantTyped(t, text, typ)
	}
}

// P22.1: operators within operators: kids first, from the left.
func TestBinaryNested(t *testing.T) {
	wantGoodIn(t,
		"b = 1 + 2 * i - 3 << i & 4 | gi < 5 % i && !(s == gs) || c != c && (1 == 2) == (2 < 3);",
		"b = l == gl && f == is && nil(S) != s && h == main && more == more;")
	wantFaultsIn(t,
		"print (i @+ b) + (b + i);",
		"print i + (b @+ i);",
		"print (1 @< b) + y;",
		"print (1 < 2) @< 3;",
		"print 1 + 2 * (3 @- b) + y;",
		"b = (i == i) @== i;",
		"b = b && i @== b;",
		"b = i < 1 @|| i;",
		"b = b && b @|| i;",
		"b = @i2 && b;",
		"print -(i @+ b);",
		"b = nil(S) @== nil(T);",
		"b = nil([]int) @!= nil([]bool);",
		"b = one @== main;",
		"b = (new S) @== t;",
		"b = main@() == main();")
}

// P22.1, unary: - of an int, ! of a bool, at it.
func TestUnary(t *testing.T) {
	for _, e := range someTyped() {
		for sign, takes := range map[string]string{"-": "int", "!": "bool"} {
			if e.typ == takes {
				wantTyped(t, sign+e.text, takes)
				wantGoodIn(t, "var x "+takes+" = "+sign+sign+e.text+";")
			} else {
				wantFaultsIn(t, "print @"+sign+e.text+";", "print -@"+sign+e.text+";", "print 1 + @"+sign+e.text+";")
			}
		}
	}
	wantFaultsIn(t, "print -@y;", "print !@y;", "print @-!b;", "b = @!-i;", "print -two@(i, b);", "b = !one@(1);", "print @-(i < i);")
}

// P22.1, index: a list, at the index, and an int, at that expression: its element.
func TestIndex(t *testing.T) {
	for _, list := range someTyped() {
		for _, at := range someTyped() {
			switch isList := list.typ[0] == '['; {
			case isList && at.typ == "int":
				wantGoodIn(t, "var x "+list.typ[2:]+" = "+list.text+"["+at.text+"];")
			case isList:
				wantFaultsIn(t, "print "+list.text+"[@"+at.text+"];", list.text+"[@"+at.text+"] = y;")
			default:
				wantFaultsIn(t, "print "+list.text+"@["+at.text+"];", list.text+"@["+at.text+"] = y;")
			}
		}
	}
	wantTyped(t, "l[0]", "int")
	wantTyped(t, "m[l[0]]", "bool")
	wantTyped(t, "nil([][]int)[0][1]", "int")
	wantTyped(t, "nil([]func() T)[0]().a", "bool")
	wantFaultsIn(t,
		"print @y[z];", "print l[@z];", "print i@[0];", "print i[@z];", "print i[two@(i, b)];", "print two@(i, b)[z];", "print l[0]@[0];", "print l[0]@[b];", "print l[i @+ b];", "print l[i @< i];", "print s.l[s@.b];", "print s.a@[0];")
}

// P22.1, dot: a named struct with that field: its type.
func TestDot(t *testing.T) {
	for _, e := range []typed{{"s.a", "int"}, {"s.b", "bool"}, {"s.s", "S"}, {"s.l", "[]int"}, {"s.c", "chan bool"}, {"s.f", "func(int) bool"}, {"t.a", "bool"}, {"s.s.s.a", "int"}, {"of(s.s).a", "bool"}, {"(new T).a", "bool"}, {"nil([]S)[0].l", "[]int"}, {"recv(nil(chan T)).a", "bool"}} {
		wantTyped(t, e.text, e.typ)
	}
	for _, e := range someTyped() {
		wantFaultsIn(t, "print "+e.text+"@.y;", "print "+e.text+"@.y.a;", e.text+"@.y = z;")
		if e.typ != "S" && e.typ != "T" {
			wantFaultsIn(t, "print "+e.text+"@.a;")
		}
	}
	wantFaultsIn(t, "print @y.a;", "print t@.b;", "print s.a@.a;", "print s@.A;", "print s@.S;", "print two@(i, b).a;", "print @S.a;", "print nil(None)@.a;", "print s.s@.x.y;")
}

// P22.1, new: a struct's name.
func TestNew(t *testing.T) {
	wantTyped(t, "new S", "S")
	wantTyped(t, "new T", "T")
	wantTyped(t, "new None", "None")
	wantGoodIn(t, "var S int = 1; s = new S;")
	for _, name := range []string{"y", "i", "gi", "main", "one", "a", "s", "NONE", "n"} {
		wantFaultsIn(t, "s = @new "+name+";", "print (@new "+name+").a;")
	}
}

// P22.1, make: a list or a chan, at the make, and an int, at that expression: it.
func TestMake(t *testing.T) {
	for _, typ := range someTyped() {
		for _, many := range someTyped() {
			switch good := typ.typ[0] == '[' || typ.typ[0] == 'c'; {
			case good && many.typ == "int":
				wantGoodIn(t, "var x "+typ.typ+" = make("+typ.typ+", "+many.text+");")
			case good:
				wantFaultsIn(t, "print make("+typ.typ+", @"+many.text+");")
			default:
				wantFaultsIn(t, "print @make("+typ.typ+", "+many.text+");")
			}
		}
		wantFaultsIn(t, "print make("+typ.typ+", @y);", "print make("+typ.typ+", two@(i, b));")
	}
	wantTyped(t, "make([]int, 1)", "[]int")
	wantTyped(t, "make(chan bool, i)", "chan bool")
	wantFaultsIn(t, "print make([]int, i @< i);", "print make(int, i @< b);", "print @make(S, i < i);")
}

// P22.1, len: a list: int; recv: a chan: its element; both at it.
func TestLenAndRecv(t *testing.T) {
	for _, e := range someTyped() {
		if e.typ[0] == '[' {
			wantTyped(t, "len("+e.text+")", "int")
		} else {
			wantFaultsIn(t, "print @len("+e.text+");")
		}
		if e.typ[0] == 'c' {
			wantGoodIn(t, "var x "+e.typ[len("chan "):]+" = recv("+e.text+");")
		} else {
			wantFaultsIn(t, "print @recv("+e.text+");", "@recv("+e.text+");")
		}
	}
	wantTyped(t, "recv(c)", "int")
	wantTyped(t, "recv(d)", "bool")
	wantTyped(t, "recv(nil(chan []int))", "[]int")
	wantFaultsIn(t, "print len(@y);", "print recv(@y);", "print len(two@(i, b));", "print recv(two@(i, b));", "print @len(i + i);", "print len(i @+ b);", "print @recv(recv(c));", "print recv(@recv(i));")
}
