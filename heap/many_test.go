package heap_test

import (
	"testing"

	"gantline/api"
	"gantline/head"
)

const maxShapes = 65536 // that a table has

// manyShapes are so many shapes, no two the same.
func manyShapes(count int) []head.Shape {
	list := make([]head.Shape, count)
	for n := range list {
		list[n] = head.Shape{Fields: 20, Map: uint64(n)}
	}
	return list
}

// P14.1, P3.2: as many shapes as a table has: the last one is made like any other.
func TestManyShapes(t *testing.T) {
	h := created(t, 8, manyShapes(maxShapes))
	addr, e := h.Make(maxShapes-1, 21, &holder{})
	what, s, ok := h.Of(addr)
	if e != api.OK || !ok || what != (head.Head{Words: 21, Shape: maxShapes - 1}) || s.Map != maxShapes-1 {
		t.Errorf("the last: %v, %v, %v, %d", what, s, ok, e)
	}
	for _, n := range []int{0, 1, 255, 256, maxShapes - 1} {
		wantAdd(t, h, head.Shape{Fields: 20, Map: uint64(n)}, n)
	}
	if _, e := h.Make(maxShapes, 2, &holder{}); e != api.EARG {
		t.Errorf("one more: %d", e)
	}
}

// P14.1, P3.2: one more than a table has is refused as the table refuses it, and those that are there are told still.
func TestTooManyShapes(t *testing.T) {
	w := &world{t, created(t, 8, manyShapes(maxShapes)), &holder{}}
	w.wantSame("Add of one too many", func() {
		for range 2 {
			if n, e := w.h.Add(head.Shape{Fields: 21}); n != 0 || e != api.ELIMIT {
				t.Errorf("Add of one too many: %d, %d", n, e)
			}
			if n, e := w.h.Add(head.Shape{Fields: 64}); n != 0 || e != api.EARG {
				t.Errorf("Add of a wrong one: %d, %d", n, e)
			}
		}
	})
	wantAdd(t, w.h, head.Shape{Fields: 20, Map: 77}, 77)
	wantNoHeap(t, "one too many", 8, manyShapes(maxShapes+1), api.ELIMIT)
	wantNoHeap(t, "and a wrong one", 8, append(manyShapes(maxShapes+1), head.Shape{Kind: 4}), api.EARG)
	wantNoHeap(t, "and too few spans", 7, manyShapes(maxShapes+1), api.EARG)
}

// P14.1: the same shapes again are no more for the table: shape n is the n-th still.
func TestManyShapesTwice(t *testing.T) {
	h := created(t, 8, append(manyShapes(maxShapes), manyShapes(maxShapes)...))
	if got := h.Cycle().Table().Len(); got != maxShapes {
		t.Errorf("the table has %d", got)
	}
	for _, n := range []int{0, 5, maxShapes, maxShapes + 5, 2*maxShapes - 1} {
		addr, e := h.Make(n, 21, &holder{})
		if what, _, ok := h.Of(addr); e != api.OK || !ok || what.Shape != n%maxShapes {
			t.Errorf("Make(%d): %v, %v, %d", n, what, ok, e)
		}
	}
	wantAdd(t, h, head.Shape{Fields: 20, Map: 5}, 5)
}

// P14.1: many that are added one by one, each asked for again: their numbers are found at once.
func TestManyAdds(t *testing.T) {
	h := created(t, 8, nil)
	for range 2 {
		for n, s := range manyShapes(maxShapes) {
			wantAdd(t, h, s, n)
		}
	}
	if n, e := h.Add(head.Shape{}); n != 0 || e != api.ELIMIT {
		t.Errorf("one too many: %d, %d", n, e)
	}
}
