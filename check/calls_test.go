package check_test

import (
	"strings"
	"testing"
)

// P22.1, call: of a fn, at the call.
func TestCallOf(t *testing.T) {
	for _, e := range someTyped() {
		if !strings.HasPrefix(e.typ, "func") {
			wantFaultsIn(t, e.text+"@();", e.text+"@(1);", "print "+e.text+"@(i, b);", "go "+e.text+"@();", "print "+e.text+"(@y);", "go "+e.text+"(two@(i, b));")
		}
	}
	wantTyped(t, "one()", "int")
	wantTyped(t, "is(1)", "bool")
	wantTyped(t, "f(i)", "bool")
	wantTyped(t, "s.f(i)", "bool")
	wantTyped(t, "of(s)", "T")
	wantTyped(t, "more()", "func(int) bool")
	wantTyped(t, "more()(1)", "bool")
	wantTyped(t, "(func(a int, b S) []int { return b.l; })(1, s)", "[]int")
	wantTyped(t, "nil([]func(bool) S)[0](b).l", "[]int")
	wantTyped(t, "recv(nil(chan func() int))()", "int")
	wantFaultsIn(t, "@y();", "@y(1);", "@S();", "one()@();", "more()(1)@(1);", "s.a@(1);", "(new S)@.f2(1);", "l[0]@();", "h@()();")
}

// P22.1, call: of as many, at the call; then each of its type, at the argument.
func TestCallArguments(t *testing.T) {
	values := map[string][2]string{"int": {"i", "b"}, "bool": {"b", "i"}, "S": {"s", "t"}, "[]int": {"l", "m"}, "chan int": {"c", "d"}, "func()": {"h", "f"}}
	lists := [][]string{{}, {"int"}, {"bool"}, {"S"}, {"int", "bool"}, {"[]int", "int", "chan int"}, {"func()", "S", "bool", "int"}, {"int", "int", "int", "int", "int", "int"}}
	for _, list := range lists {
		var good []string
		for _, typ := range list {
			good = append(good, values[typ][0])
		}
		of := "nil(func(" + strings.Join(list, ", ") + ") int)"
		none := "nil(func(" + strings.Join(list, ", ") + "))"
		all := strings.Join(good, ", ")
		wantGoodIn(t, "print "+of+"("+all+");", of+"("+all+");", none+"("+all+");", "go "+none+"("+all+");")
		wantFaultsIn(t, "@go "+of+"("+all+");", "print "+none+"@("+all+");")
		more := strings.TrimPrefix(all+", i", ", ")
		wantFaultsIn(t, "print "+of+"@("+more+");", of+"@("+more+");", none+"@("+more+");", "go "+none+"@("+more+");", "go "+of+"@("+more+", b);")
		for at, typ := range list {
			fewer := strings.Join(append(append([]string{}, good[:at]...), good[at+1:]...), ", ")
			wantFaultsIn(t, "print "+of+"@("+fewer+");", of+"@("+fewer+");", none+"@("+fewer+");", "go "+none+"@("+fewer+");")
			for _, wrong := range []string{"@" + values[typ][1], "@y", "main@()", "i @+ b"} {
				args := append([]string{}, good...)
				args[at] = wrong
				text := "(" + strings.Join(args, ", ") + ");"
				wantFaultsIn(t, "print "+of+text, of+text, none+text, "go "+none+text, "go "+of+text)
			}
			args := append([]string{}, good...)
			args[at] = values[typ][1]
			wantFaultsIn(t, of+"@("+strings.Join(append(args, "i"), ", ")+");")
		}
	}
}

// P22.1, call: all kids ahead of what is wrong with the call, the arguments from the left.
func TestCallInOrder(t *testing.T) {
	wantFaultsIn(t,
		"@y(z);", "i(@y);", "i(1, @y, z);", "two(@y);", "two(b, @y);", "two(b, i, @y);", "two(@b, i);", "two(i, @i);", "two@(b);", "two@(b, b, b);",
		"two(b, @y2);", "two(i, i @+ b);", "one(1 @+ b);", "i(main@());", "main@()(y);", "two(main@(), y);", "two(b, f(@b));", "two(f@(), y);", "one()(@y);", "one()@(b);",
		"go two(b, @y);", "go i(@y);", "@go is(1);", "go is@();")
}

// P22.1, call: without a result it may stand in do and go alone, else it is a fault at the call.
func TestCallWithoutResult(t *testing.T) {
	for _, call := range []string{"main@()", "h@()", "two@(i, b)", "nil(func(int))@(1)", "(func() { })@()", "(func(a int) { print a; })@(2)"} {
		plain := strings.Replace(call, "@", "", 1)
		wantGoodIn(t, plain+";", "go "+plain+";", "("+plain+");", "go ("+plain+");")
		wantFaultsIn(t,
			"var x int = "+call+";", "var x func() = "+call+";", "i = "+call+";", "l["+call+"] = 1;", call+".a = 1;", "if "+call+" { }", "while "+call+" { }", "return "+call+";", "print "+call+";",
			"close "+call+";", "send "+call+", 1;", "send c, "+call+";", "select { case recv v = "+call+" { } }", "select { case send "+call+", 1 { } }", "select { case send c, "+call+" { } }",
			"print "+call+" + 1;", "print 1 + "+call+";", "b = "+call+" == "+call[:strings.Index(call, "@")]+"();", "b = b && "+call+";", "b = !"+call+";", "print -"+call+";", call+"();", "go "+call+"();", "f("+call+");", "go two(1, "+call+");",
			"print "+call+"[0];", "print l["+call+"];", "print "+call+".a;", "make([]int, "+call+")[0] = 1;", "print len("+call+");", "print recv("+call+");", "recv("+call+");",
			"var g func() int = func() int { return "+call+"; };", "var g func() = func() { print "+call+"; };")
	}
}

// P22.1, lambda: params' names once, its block, its Ends: a fn.
func TestLambda(t *testing.T) {
	wantTyped(t, "func() { }", "func()")
	wantTyped(t, "func(a int) bool { return b; }", "func(int) bool")
	wantTyped(t, "func(a int, b bool) { }", "func(int, bool)")
	wantTyped(t, "func() func(int) bool { return f; }", "func() func(int) bool")
	wantTyped(t, "func(g func()) int { return 1; }", "func(func()) int")
	wantGoodIn(t, "b = (func(i bool) bool { return i; })(b);", "print (func(i int, s int) int { return i + s; })(1, 2);")
	wantFaultsIn(t,
		"h = func(a int, @a int) { };",
		"h = func(a int, b int, @b bool, a int) { y; };",
		"h = func() { print @y; };",
		"h = func() int { print @y; };",
		"h = @func() int { };",
		"h = @func() int { print 1; };",
		"h = @func(a int) int { if b { return 1; } };",
		"h @= func() int { return 1; };",
		"h @= func(a int) { };",
		"print @func() { };",
		"print 1 @+ func() { };",
		"h = func(a int) { @var a int = 1; };",
		"h = func() { @return 1; };",
		"h = func() int { @return; };",
		"h = func() { var g func(int) = func(a int, @a int) { }; print y; };",
		"two((func() int { return @y; })(), z);",
		"two((@func() int { })(), z);")
}
