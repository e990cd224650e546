package tree_test

import (
	"slices"
	"strings"
	"testing"

	"gantline/tree"
)

// wantSame wants two trees to be the same, or not, whichever is asked first.
func wantSame(t *testing.T, what string, x, y tree.Node, want bool) {
	t.Helper()
	if tree.Same(x, y) != want || tree.Same(y, x) != want {
		t.Errorf("Same, %s: %v and %v, want %v", what, tree.Same(x, y), tree.Same(y, x), want)
	}
	if !tree.Same(x, x) || !tree.Same(y, y) {
		t.Errorf("Same, %s: one is not the same as itself", what)
	}
}

// copied is the same tree in memory of its own, each node changed by change, which is told how many came ahead of it.
func copied(x tree.Node, change func(y *tree.Node, at int)) tree.Node {
	at := 0
	var walk func(x tree.Node) tree.Node
	walk = func(x tree.Node) tree.Node {
		mine := at
		at++
		y := x
		y.Kids = nil
		for _, kid := range x.Kids {
			y.Kids = append(y.Kids, walk(kid))
		}
		change(&y, mine)
		return y
	}
	return walk(x)
}

// trees are of many sorts, such as do not fit too.
func trees() []tree.Node {
	list := []tree.Node{{}, n("", "x"), n("what", "", n("", ""), n("", "")), prints, n("block", "", prints, empty, prints), n("binary", "+", a, n("binary", "+", a)), under(a, expressionLinks()[1], expressionLinks()[0], 300)}
	p, d := newPlain(), dice(5)
	for _, kind := range kinds() {
		list = append(list, sample(kind), d.grown(p, kind, 5, 0), d.grown(p, kind, 4, 10))
	}
	return list
}

// P20.1: trees that are in no memory that both have.
func TestSame(t *testing.T) {
	for _, x := range trees() {
		wantSame(t, "a copy", x, copied(x, func(*tree.Node, int) {}), true)
	}
}

// P20.1: trees that part in nothing but where they stand are the same.
func TestSameWhereverTheyStand(t *testing.T) {
	for _, x := range trees() {
		wantSame(t, "all stand elsewhere", x, copied(x, func(y *tree.Node, at int) { y.At = -7 - at }), true)
		last := tree.Size(x) - 1
		wantSame(t, "the last one stands elsewhere", x, copied(x, func(y *tree.Node, at int) {
			if at == last {
				y.At++
			}
		}), true)
	}
	wantSame(t, "one alone", tree.Node{Kind: "int", At: 1}, tree.Node{Kind: "int", At: 1 << 62}, true)
}

// P20.1: nil and empty Kids are the same, also with room to spare.
func TestSameNilAndEmpty(t *testing.T) {
	for _, kids := range [][]tree.Node{{}, make([]tree.Node, 0, 4), prints.Kids[:0]} {
		wantSame(t, "no kids", tree.Node{Kind: "block"}, tree.Node{Kind: "block", Kids: kids}, true)
		wantSame(t, "no kids, of nothing", tree.Node{}, tree.Node{Kids: kids}, true)
		wantSame(t, "no kids, but one parts", tree.Node{Kind: "block"}, tree.Node{Kind: "struct", Kids: kids}, false)
		for _, x := range trees() {
			wantSame(t, "no kids below", x, copied(x, func(y *tree.Node, at int) {
				if len(y.Kids) == 0 {
					y.Kids = kids
				}
			}), true)
		}
	}
}

// P20.1: trees that part in one node's Kind, its Text, or its kids, wherever it stands among the others.
func TestSameParts(t *testing.T) {
	changes := []struct {
		what   string
		change func(y *tree.Node)
	}{
		{"another Kind", func(y *tree.Node) { y.Kind += "s" }},
		{"a Kind in capitals", func(y *tree.Node) { y.Kind = strings.ToUpper(y.Kind) + "!" }},
		{"a Text", func(y *tree.Node) { y.Text += "x" }},
		{"a Text with a byte 0", func(y *tree.Node) { y.Text += "\x00" }},
		{"a Text ahead", func(y *tree.Node) { y.Text = " " + y.Text }},
		{"one kid more", func(y *tree.Node) { y.Kids = append(slices.Clone(y.Kids), tree.Node{}) }},
		{"one kid more ahead", func(y *tree.Node) { y.Kids = append([]tree.Node{{}}, y.Kids...) }},
		{"the last kid twice", func(y *tree.Node) {
			y.Kids = append(slices.Clone(y.Kids), append(y.Kids, n("int", ""))[max(0, len(y.Kids)-1)])
		}},
	}
	for _, x := range trees() {
		for _, c := range changes {
			for there := 0; there < tree.Size(x); there += 1 + tree.Size(x)/60 {
				wantSame(t, c.what, x, copied(x, func(y *tree.Node, at int) {
					if at == there {
						c.change(y)
					}
				}), false)
			}
		}
	}
}

// P20.1: kids that are fewer, or in another order, or elsewhere below.
func TestSameKids(t *testing.T) {
	b := n("name", "b")
	for _, c := range [][2]tree.Node{
		{n("call", "", a, b), n("call", "", b, a)},
		{n("call", "", a, b), n("call", "", a)},
		{n("call", "", a, b), n("call", "", b)},
		{n("call", "", a, b), n("call", "")},
		{n("call", "", a, b, a), n("call", "", a, b, b)},
		{n("call", "", a, n("call", "", b)), n("call", "", n("call", "", a), b)},
		{n("call", "", a, n("call", "", b)), n("call", "", a, n("call", ""), b)},
		{n("block", "", empty), n("block", "", empty, empty)},
		{n("block", "", n("block", "", empty)), n("block", "", empty)},
		{a, b},
		{a, n("named", "a")},
		{n("name", "A"), a},
		{n("number", "1"), n("number", "01")},
		{n("ab", "c"), n("a", "bc")},
		{none, tree.Node{}},
		{n("int", ""), n("bool", "")},
	} {
		wantSame(t, "kids", c[0], c[1], false)
		wantSame(t, "kids, of Kinds that there are not", n("what", "", c[0]), n("what", "", c[1]), false)
		wantSame(t, "kids, with others beside", n("block", "", empty, c[0], empty), n("block", "", empty, c[1], empty), false)
		for _, above := range []int{1, 199, 200, 201, 5000} {
			l := blockLinks()[0]
			wantSame(t, "kids deep below", under(c[0], l, l, above), under(c[1], l, l, above), false)
			wantSame(t, "deep below", under(c[0], l, l, above), under(c[0], l, l, above), true)
			wantSame(t, "one deeper", under(c[0], l, l, above), under(c[0], l, l, above+1), false)
		}
	}
}

// P20.1: trees of which the same is written need not be the same.
func TestSameIsNotShow(t *testing.T) {
	for _, c := range [][2]tree.Node{
		{n("what", ""), n("that", "")},
		{n("int", "x"), n("int", "y")},
		{n("number", "1"), n("name", "1")},
		{n("named", "T"), n("name", "T")},
		{n("print", ""), n("print", "", integer)},
		{n("name", "(a + 2)"), n("binary", "+", a, two)},
	} {
		if tree.Show(c[0]) != tree.Show(c[1]) {
			t.Errorf("Show: %s and %s", told(tree.Show(c[0])), told(tree.Show(c[1])))
		}
		wantSame(t, "the same is written", c[0], c[1], false)
	}
}
