package check_test

import "testing"

// P22.1, select: at least one case, at it.
func TestSelectCases(t *testing.T) {
	wantGoodIn(t,
		"select { case recv v = c { } }", "select { case send c, 1 { } }", "select { default { } }",
		"select { default { } case recv v = c { print v; } case recv v = d { if v { } } case send d, b { } case send c, i { } }",
		"select { case recv v = c { select { default { } case recv v = d { b = v; } } } default { } }")
	wantFaultsIn(t, "@select { } print y;", "{ @select { } }", "select { default { @select { } } }", "select { case recv v = c { @select { } } case recv w = y { } }")
}

// P22.1, select: at most one default, at the second, when it is come to.
func TestSelectDefaults(t *testing.T) {
	wantGoodIn(t, "select { default { select { default { } } } case recv v = c { } } select { default { } }")
	wantFaultsIn(t,
		"select { default { } @default { } }",
		"select { default { } @default { print y; } }",
		"select { default { print @y; } default { } }",
		"select { default { } case recv v = c { } case send c, 1 { } @default { } case recv v = y { } }",
		"select { default { } case recv v = @y { } default { } }",
		"select { default { } case recv v = c { print @y; } default { } }",
		"select { default { } case send c, @y { } default { } }",
		"select { default { } @default { } default { } }",
		"select { default { select { default { } @default { } } } default { } }")
}

// P22.1, onrecv: E is a chan, at E; the block has the name, of its element, in its own scope.
func TestSelectReceives(t *testing.T) {
	for _, e := range someTyped() {
		if e.typ[0] == 'c' {
			typ := e.typ[len("chan "):]
			wantGoodIn(t, "select { case recv v = "+e.text+" { var x "+typ+" = v; v = x; } }")
		} else {
			wantFaultsIn(t, "select { case recv v = @"+e.text+" { print y; } }")
		}
	}
	wantGoodIn(t,
		"select { case recv i = c { { var i bool = b; b = i; } i = 2; } case recv i = d { i = b; } } i = 1;",
		"select { case recv c = c { i = c; } } send c, 1;",
		"select { case recv is = c { print is; } case recv gi = d { b = gi; } }",
		"var v int = 1; select { case recv v = d { b = v; } } print v;",
		"select { case recv v = c { } case recv v = c { } } select { case recv v = c { } }",
		"select { case recv main = c { main = 1; } }")
	wantFaultsIn(t,
		"select { case recv v = @y { } }",
		"select { case recv v = @v { } }",
		"select { case recv v = i @+ i { } }",
		"select { case recv v = two@(i, b) { } }",
		"select { case recv v = c { @var v int = 1; } }",
		"select { case recv v = c { { var v bool = true; } @var v int = 1; } }",
		"select { case recv v = c { var x int = 1; @var x int = v; } }",
		"select { case recv v = c { } case send c, @v { } }",
		"select { case recv v = c { } default { print @v; } }",
		"select { case recv v = c { } case recv w = d { print @v; } }",
		"select { case recv v = c { } } print @v;",
		"select { case recv v = d { print @v; } }",
		"select { case recv v = c { v @= b; } }",
		"select { case recv i = d { print @i; } }",
		"select { case recv v = c { print @y; } case recv w = z { } }")
}

// P22.1, onsend: as send, then the block.
func TestSelectSends(t *testing.T) {
	wantGoodIn(t, "select { case send c, i { var i bool = b; b = i; } case send d, i == 1 { } } i = 1;")
	wantFaultsIn(t,
		"select { case send @i, y { print y; } }",
		"select { case send c, @b { print y; } }",
		"select { case send c, @y { print z; } }",
		"select { case send c, i { print @y; } case send c, z { } }",
		"select { case send c, i { var x int = 1; @var x int = 1; } }",
		"select { case send c, i { var x int = 1; } default { print @x; } }",
		"select { case send c, i { } case send d, @i { } }")
}

// P22.1, select: the cases one behind the other, a default's block too.
func TestSelectInOrder(t *testing.T) {
	wantFaultsIn(t,
		"select { default { print @y; } case recv v = y { } case send y, y { } }",
		"select { case recv v = @y { print z; } default { print y; } case send y, y { } }",
		"select { case send @y, y { } case recv v = y { } default { print y; } }",
		"select { default { } } print @y;",
		"print @y; select { }",
		"select { default { var x int = 1; } } print @x;")
}
