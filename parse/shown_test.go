package parse_test

import (
	"strings"
	"testing"

	"gantline/api"
	"gantline/parse"
	"gantline/tree"
)

// wantShown wants a tree, which Parse told, to come back from what Show writes of it; ok is false, if that is more than there may be.
func wantShown(t *testing.T, x tree.Node) (ok bool) {
	t.Helper()
	text := tree.Show(x)
	y, at, e := parse.Parse(text)
	if e == api.ELIMIT {
		return false
	}
	if e != api.OK || at != 0 || !tree.Same(x, y) {
		t.Errorf("Parse(%s): error %d at %d, %s, want %s", short(text), e, at, short(told(y)), short(told(x)))
	}
	return e == api.OK
}

// P21.2: what Show writes of what was told comes back, whatever is in it.
func TestShown(t *testing.T) {
	for _, text := range []string{
		"", "var g int; struct S { a int; b []chan S; } struct E { }", "func f(a int, b func(int, bool) S) []int { }", "func f() func() { } func g() func() int { }",
		"func f() { a || b && c == d + e * -f; }", "func f() { a - b - c; a - (b - c); -a.b; (-a).b; - - -a; !(a == b) == c; }", "func f() { ((a)); (a.b)[c](d, (e)).g; }",
		"func f() { (func(x int) int { return x; })(1); func() { }(); x = func() { }; func() func() { } = a; }", "func f() { new S.a; make([]int, 3)[0] = len(a) + recv(b); nil(chan S); true; false; 007; }",
		"func f() { var x int = 1; { } if a { } if a { } else { b; } while a { return; } return a; close c; go f(1); go (f)(); send c, d; }", "func f() { select { case recv v = c { } case send c, d { } default { } } select { } }",
		"func f() { if func() { } { } while (func() int { return 1; })() == 1 { } if nil(func()) == x { } }",
	} {
		if !wantShown(t, read(t, text)) {
			t.Errorf("%s: what is shown is refused", short(text))
		}
	}
}

// P21.2: what is shown may be more than there may be, in bytes or in brackets, where the text was not.
func TestShownTooMuch(t *testing.T) {
	for _, text := range []string{
		exprAhead + "a" + strings.Repeat(" + a", 61) + exprBehind,
		exprAhead + "a" + strings.Repeat(" * a", 300) + exprBehind,
		bodyAhead + strings.Repeat("a+b;", 3000) + bodyBehind,
		exprAhead + strings.Repeat("(-", 29) + "a" + strings.Repeat(")", 29) + " + a + a" + exprBehind,
		exprAhead + strings.Repeat("-", 40) + "a" + exprBehind,
	} {
		if wantShown(t, read(t, text)) {
			t.Errorf("%s: what is shown is taken", short(text))
		}
	}
	if !wantShown(t, read(t, exprAhead+"a"+strings.Repeat(" + a", 58)+exprBehind)) {
		t.Errorf("a row of 58 is refused")
	}
	_, _, e := parse.Parse(tree.Show(read(t, exprAhead+"a"+strings.Repeat(" + a", 60)+exprBehind)))
	if e != api.ELIMIT {
		t.Errorf("a row of 60: %d", e)
	}
}
