package check_test

import (
	"slices"
	"strings"
	"testing"

	"gantline/api"
	"gantline/check"
	"gantline/tree"
)

// allKinds is a program that has each Kind of node.
const allKinds = "struct S { a int; b []bool; c chan S; d func() int; } struct E { } var g func(int, S) bool; var h S; func f(a int, b bool) S { return h; } " +
	"func main() { var x int = -1 + 2 * len(nil([]int)); { x = 3; h.a = x; h.b[x] = !true; } if x < 1 { } if false { print x; } else { return; } while x == 1 && false { } close h.c; go (func() { })(); " +
	"send h.c, new S; select { case recv v = h.c { h = v; } case send h.c, h { } default { } } f(x, true); recv(h.c); var y []int = make([]int, 2); }"

// wantNone wants a tree to be no program.
func wantNone(t *testing.T, p tree.Node) {
	t.Helper()
	if at, e := check.Check(p); at != 0 || e != api.ETYPE {
		t.Errorf("Check of what is no program: error %d at %d, want %d at 0: %s", e, at, api.ETYPE, short(kindsOf(p)))
	}
}

// kindsOf tells a tree's Kinds and Texts.
func kindsOf(x tree.Node) string {
	text := x.Kind + " " + x.Text + "("
	for _, kid := range x.Kids {
		text += kindsOf(kid) + " "
	}
	return text + ")"
}

// samples are programs, one without a fault, one with faults of many sorts; no node of them stands at 0.
func samples(t *testing.T) []tree.Node {
	t.Helper()
	faulty := "struct g { x int; x int; } var z Z; func f(q int, q int) int { y; } func main(r int) { print true; select { } }"
	list := []tree.Node{read(t, allKinds), read(t, strings.Replace(allKinds, "func main() {", faulty+" func main() { print true;", 1)), read(t, "func main() { }")}
	for i := range list {
		each(&list[i], func(x *tree.Node) { x.At += 1000 })
	}
	return list
}

// broken calls for a tree with each of its nodes changed by turns.
func broken(p tree.Node, change func(x *tree.Node) bool, call func(tree.Node)) {
	for at := range tree.Size(p) {
		x, i, changed := own(p), 0, false
		each(&x, func(y *tree.Node) {
			if i == at {
				changed = change(y)
			}
			i++
		})
		if changed {
			call(x)
		}
	}
}

// P22.1: what is no program: ETYPE at 0.
func TestNoProgram(t *testing.T) {
	good := read(t, "func main() { }")
	wantNone(t, tree.Node{})
	for _, kind := range append(allOf(good), "", "block", "Program", "program ", "what", "none", "struct", "int", "select") {
		if kind != "program" {
			wantNone(t, tree.Node{Kind: kind, At: 7})
			wantNone(t, tree.Node{Kind: kind, At: 7, Kids: good.Kids})
		}
	}
	for _, kid := range append(slices.Clone(good.Kids), good.Kids[0].Kids...) {
		wantNone(t, kid)
	}
	wantNone(t, n("program", "", good))
	wantNone(t, n("program", "p", good.Kids...))
}

// allOf are the Kinds of a tree's nodes.
func allOf(p tree.Node) []string {
	var list []string
	each(&p, func(x *tree.Node) { list = append(list, x.Kind) })
	return list
}

// P22.1: a node of a Kind that the table does not have, ahead of every other fault.
func TestOtherKinds(t *testing.T) {
	for _, p := range samples(t) {
		for _, kind := range []string{"", "what", "Int", "block ", "expr", "type", "case", "else"} {
			broken(p, func(x *tree.Node) bool { x.Kind = kind; return true }, func(x tree.Node) { wantNone(t, x) })
			broken(p, func(x *tree.Node) bool { x.Kids = append(x.Kids, n(kind, "")); return true }, func(x tree.Node) { wantNone(t, x) })
		}
		broken(p, func(x *tree.Node) bool { *x = tree.Node{}; return true }, func(x tree.Node) { wantNone(t, x) })
	}
}

// P22.1: a node with fewer kids than the table has, with more, or with one of another Kind.
func TestOtherKids(t *testing.T) {
	changes := []func(x *tree.Node) bool{
		func(x *tree.Node) bool { x.Kids = append(x.Kids, n("program", "")); return true },
		func(x *tree.Node) bool { x.Kids = append(x.Kids, n("params", "")); return true },
		func(x *tree.Node) bool { x.Kids = slices.Insert(x.Kids, 0, n("none", "")); return true },
		func(x *tree.Node) bool { x.Kids = nil; return true },
	}
	for at := range 3 {
		changes = append(changes,
			func(x *tree.Node) bool {
				there := at < len(x.Kids)
				if there {
					x.Kids = slices.Delete(x.Kids, at, at+1)
				}
				return there
			},
			func(x *tree.Node) bool {
				if at < len(x.Kids) {
					x.Kids[at] = tree.Node{Kind: "program"}
				}
				return at < len(x.Kids)
			},
			func(x *tree.Node) bool {
				if at+1 < len(x.Kids) {
					x.Kids[at], x.Kids[at+1] = x.Kids[at+1], x.Kids[at]
				}
				return at+1 < len(x.Kids)
			})
	}
	for _, kind := range []string{"int", "none", "block", "return", "name", "call", "func", "struct", "field", "param", "default"} {
		changes = append(changes, func(x *tree.Node) bool { *x = tree.Node{Kind: kind, Kids: x.Kids}; return true })
	}
	refused, taken := 0, 0
	for _, p := range samples(t) {
		for _, change := range changes {
			broken(p, change, func(x tree.Node) {
				if !sound(x) {
					wantNone(t, x)
					refused++
				} else if x.Kind == "program" {
					wantReckoned(t, x)
					taken++
				}
			})
		}
	}
	if refused < 4000 || taken < 300 {
		t.Errorf("%d refused, %d taken", refused, taken)
	}
}

// P22.1: a Text that the table does not have: no name, no digits, no such sign, or one where it has none.
func TestOtherTexts(t *testing.T) {
	for _, p := range samples(t) {
		for _, text := range []string{"", "x", "+", "!", "12", "-1", "what", "&&&", " "} {
			broken(p, func(x *tree.Node) bool { x.Text = text; return true }, func(x tree.Node) {
				if !sound(x) {
					wantNone(t, x)
				} else {
					wantReckoned(t, x)
				}
			})
		}
	}
}

// P22.1: trees like those, written out.
func TestWrittenOut(t *testing.T) {
	good := read(t, "func main() { }").Kids[0]
	none, truth, params, block := n("none", ""), n("true", ""), n("params", ""), n("block", "")
	within := func(statement tree.Node) tree.Node {
		return n("program", "", n("func", "main", params, none, n("block", "", statement)))
	}
	if at, e := check.Check(within(n("if", "", truth, block, none))); at != 0 || e != api.OK {
		t.Errorf("error %d at %d, want none", e, at)
	}
	for _, p := range []tree.Node{
		n("program", "", good, n("what", "")),
		n("program", "", n("func", "f"), good),
		n("program", "", n("global", "g", n("number", "1")), good),
		n("program", "", n("global", "g"), good),
		n("program", "", n("global", "g", none), good),
		n("program", "", n("global", "", n("int", "")), good),
		n("program", "", n("global", "g", n("list", "", none)), good),
		n("program", "", n("global", "g", n("fn", "")), good),
		n("program", "", n("global", "g", n("fn", "", n("int", ""), none)), good),
		n("program", "", n("struct", "S", n("param", "a", n("int", ""))), good),
		n("program", "", n("block", ""), good),
		within(n("if", "", truth, block)),
		within(n("if", "", truth, none, none)),
		within(n("if", "", truth, block, block, block)),
		within(n("return", "")),
		within(n("return", "", block)),
		within(n("go", "", truth)),
		within(n("do", "", n("call", ""))),
		within(n("do", "", block)),
		within(n("default", "", block)),
		within(n("select", "", block)),
		within(n("print", "", n("number", ""))),
		within(n("print", "", n("number", "x"))),
		within(n("print", "", n("unary", "+", n("number", "1")))),
		within(n("print", "", n("binary", "!", n("number", "1"), n("number", "1")))),
		within(n("print", "", n("binary", "=", n("number", "1"), n("number", "1")))),
		within(n("int", "")),
		within(none),
	} {
		each(&p, func(x *tree.Node) { x.At = 5 })
		wantNone(t, p)
	}
}
