package tree_test

import (
	"reflect"
	"strings"
	"sync"
	"testing"
	"unsafe"

	"gantline/tree"
)

// whole tells all that a tree's memory holds, spare room and whether Kids are nil too.
func whole(x tree.Node) tree.Node {
	y := tree.Node{Kind: strings.Clone(x.Kind), Text: strings.Clone(x.Text), At: x.At}
	if x.Kids == nil {
		return y
	}
	y.Kids = make([]tree.Node, 0, cap(x.Kids))
	for _, kid := range x.Kids[:cap(x.Kids)] {
		y.Kids = append(y.Kids, whole(kid))
	}
	return y
}

// roomy is the same tree, each list of kids with room to spare, in which something stands.
func roomy(x tree.Node) tree.Node {
	return copied(x, func(y *tree.Node, at int) {
		kids := make([]tree.Node, 0, len(y.Kids)+3)
		kids = append(kids, y.Kids...)
		spare := kids[len(kids):cap(kids)]
		for i := range spare {
			spare[i] = n("spare", "s", empty)
		}
		y.Kids, y.At = kids, at
	})
}

// R4: no call writes into what is handed in, spare room included.
func TestNothingWritten(t *testing.T) {
	for _, x := range trees() {
		for _, y := range []tree.Node{x, roomy(x)} {
			before := whole(y)
			shown := tree.Show(y)
			same, size, deep := tree.Same(y, y) && tree.Same(x, y), tree.Size(y), tree.Deep(y)
			if !reflect.DeepEqual(whole(y), before) {
				t.Errorf("%q was written into", x.Kind)
			}
			// What stands in spare room is no part of a tree.
			if shown != tree.Show(x) || !same || size != tree.Size(x) || deep != tree.Deep(x) {
				t.Errorf("%q with room to spare: %s, %v, %d, %d", x.Kind, told(shown), same, size, deep)
			}
		}
	}
}

// R4: what is answered shares no memory with what was handed in: what becomes of that is not seen in it.
func TestNothingShared(t *testing.T) {
	for _, x := range append(trees(), a, two, n("named", "T"), n("name", strings.Repeat("long", 1000)), n("new", "T")) {
		var bytes [][]byte
		own := func(text string) string {
			b := []byte(text)
			bytes = append(bytes, b)
			return unsafe.String(unsafe.SliceData(b), len(b))
		}
		y := copied(x, func(z *tree.Node, at int) { z.Kind, z.Text = own(z.Kind), own(z.Text) })
		got, want := tree.Show(y), tree.Show(x)
		for _, b := range bytes {
			for i := range b {
				b[i] = '?'
			}
		}
		spoil(y)
		if got != want {
			t.Errorf("Show of %q: %s, want %s", x.Kind, told(got), told(want))
		}
	}
}

// spoil writes into all of a tree's lists.
func spoil(x tree.Node) {
	for i := range x.Kids {
		spoil(x.Kids[i])
		x.Kids[i] = n("spoilt", "spoilt")
	}
}

// R5: what a call answers hangs on its arguments alone: asked again, behind others, it says the same.
func TestAskedAgain(t *testing.T) {
	var first []string
	for _, x := range trees() {
		first = append(first, tree.Show(x))
	}
	for i, x := range trees() {
		for j, y := range trees() {
			tree.Same(x, y)
			if j%13 == i%13 && tree.Show(y) != first[j] {
				t.Fatalf("Show of tree %d behind tree %d: %s, want %s", j, i, told(tree.Show(y)), told(first[j]))
			}
		}
	}
}

// R5: calls that go on beside each other, on one tree, do not tell of one another.
func TestBesideEachOther(t *testing.T) {
	list := trees()
	var want []string
	for _, x := range list {
		want = append(want, tree.Show(x))
	}
	var all sync.WaitGroup
	for range 8 {
		all.Go(func() {
			for i, x := range list {
				if tree.Show(x) != want[i] || !tree.Same(x, list[i]) || tree.Size(x) < tree.Deep(x) {
					t.Errorf("tree %d beside others: %s, want %s", i, told(tree.Show(x)), told(want[i]))
				}
			}
		})
	}
	all.Wait()
}
