package tree_test

import (
	"slices"
	"testing"

	"gantline/tree"
)

// wantSize wants a tree of so many nodes, so many of them one below the other.
func wantSize(t *testing.T, x tree.Node, size, deep int) {
	t.Helper()
	if tree.Size(x) != size || tree.Deep(x) != deep {
		t.Errorf("Size %d, Deep %d, want %d, %d", tree.Size(x), tree.Deep(x), size, deep)
	}
}

// P20.1: one node, of whatever Kind.
func TestSizeOfOne(t *testing.T) {
	for _, kind := range append(kinds(), strange()...) {
		wantSize(t, n(kind, ""), 1, 1)
		wantSize(t, n(kind, "x"), 1, 1)
		wantSize(t, tree.Node{Kind: kind, At: 9, Kids: []tree.Node{}}, 1, 1)
		wantSize(t, tree.Node{Kind: kind, Kids: make([]tree.Node, 0, 9)}, 1, 1)
		wantSize(t, tree.Node{Kind: kind, Kids: slices.Repeat([]tree.Node{prints}, 9)[:0]}, 1, 1)
	}
}

// P20.1: many beside each other.
func TestSizeBeside(t *testing.T) {
	for _, many := range []int{1, 2, 3, 63, 64, 255, 256, 1000, 70000} {
		wantSize(t, n("block", "", slices.Repeat([]tree.Node{empty}, many)...), many+1, 2)
		wantSize(t, n("what", "", slices.Repeat([]tree.Node{prints}, many)...), 3*many+1, 4)
	}
}

// P20.1: many one below the other, up to as many parts nested as a promise holds for.
func TestSizeBelow(t *testing.T) {
	for _, l := range append(typeLinks()[:2], expressionLinks()[0], blockLinks()[0]) {
		for _, above := range []int{1, 2, 198, 199, 200, 201, 255, 256, 1000, 1<<16 - 1} {
			wantSize(t, under(tree.Node{}, l, l, above), above+1, above+1)
			wantSize(t, under(n("binary", "", a, n("unary", "", a)), l, l, above-1), above+3, above+2)
		}
	}
}

// P20.1: the deepest may stand at any place among the kids.
func TestDeepAnywhere(t *testing.T) {
	for at := range 7 {
		x := n("block", "", slices.Repeat([]tree.Node{empty}, 7)...)
		x.Kids[at] = n("block", "", n("block", "", prints), empty)
		wantSize(t, x, 13, 6)
		x.Kids[(at+3)%7] = n("block", "", empty, empty)
		wantSize(t, x, 15, 6)
	}
	wantSize(t, n("binary", "+", n("number", "1"), n("number", "2")), 3, 2)
	wantSize(t, n("call", "", n("call", "", a), n("index", "", a, n("index", "", a, a))), 8, 4)
}

// P20.1: a node counts wherever it stands, also where nothing is written of it.
func TestSizeOfWhatDoesNotFit(t *testing.T) {
	wantSize(t, n("print", "", integer, integer, n("what", "", none)), 5, 3)
	wantSize(t, n("", "", tree.Node{}, tree.Node{Kids: []tree.Node{{}}}), 4, 3)
	wantSize(t, n("int", "", n("int", "", n("int", ""))), 3, 3)
}

// P20.1: full trees: each node but the lowest has so many kids.
func TestSizeOfFull(t *testing.T) {
	for kids := 2; kids < 5; kids++ {
		x, size := n("name", "x"), 1
		for deep := 1; deep < 9; deep++ {
			wantSize(t, x, size, deep)
			x, size = n("call", "", slices.Repeat([]tree.Node{x}, kids)...), size*kids+1
		}
	}
}

// P20.1: many trees, against a walk from the top.
func TestSizeLikePlain(t *testing.T) {
	p, d := newPlain(), dice(3)
	for range 2000 {
		x := d.grown(p, kinds()[d.below(len(p.rows))], d.below(7), 20)
		size, deep := 0, 0
		for row := []tree.Node{x}; len(row) > 0; deep++ {
			var below []tree.Node
			for _, y := range row {
				size++
				below = append(below, y.Kids...)
			}
			row = below
		}
		wantSize(t, x, size, deep)
	}
}
