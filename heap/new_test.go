package heap_test

import (
	"math"
	"testing"

	"gantline/api"
	"gantline/head"
	"gantline/heap"
)

func wantNoHeap(t *testing.T, where string, spans int, list []head.Shape, want api.Errno) {
	t.Helper()
	if h, e := heap.New(spans, list); h != nil || e != want {
		t.Errorf("%s: New(%d): %v, %d, want %d", where, spans, h, e, want)
	}
}

// P14.1: cycle's error, alone and with a shape that is wrong too. (Both are EARG: which one comes first cannot be told.)
func TestNewRefusesSpans(t *testing.T) {
	for _, spans := range []int{math.MinInt, -1 << 32, -8, -1, 0, 1, api.MinSpans - 1, api.MaxSpans + 1, 1 << 32, 1<<32 + 8, math.MaxInt} {
		wantNoHeap(t, "no shapes", spans, nil, api.EARG)
		wantNoHeap(t, "shapes that are Good", spans, yard(), api.EARG)
		wantNoHeap(t, "a shape that is not", spans, []head.Shape{{Kind: 9}}, api.EARG)
	}
}

// P14.1: at the limits all is well.
func TestNewSpans(t *testing.T) {
	for _, spans := range []int{api.MinSpans, api.MinSpans + 1, api.MaxSpans - 1, api.MaxSpans} {
		h := created(t, spans, yard())
		if got := h.Cycle().Arena().Spans(); got != spans {
			t.Errorf("New(%d): %d spans", spans, got)
		}
	}
}

// P14.1: a shape that is not Good: alone, first, last, among others.
func TestNewRefusesShapes(t *testing.T) {
	for _, s := range wrongShapes() {
		wantNoHeap(t, "alone", 8, []head.Shape{s}, api.EARG)
		wantNoHeap(t, "first", 8, append([]head.Shape{s}, yard()...), api.EARG)
		wantNoHeap(t, "last", 8, append(yard(), s), api.EARG)
		wantNoHeap(t, "among others", 8, append(append(yard(), s), yard()...), api.EARG)
		wantNoHeap(t, "twice", 8, []head.Shape{s, s}, api.EARG)
	}
}

// P14.1: a heap that is new is off, and nothing was done.
func TestNewIsEmpty(t *testing.T) {
	w := begun(t, 8)
	w.wantCounts("new", 0, 0)
	w.wantTaken("new")
	if c := w.h.Cycle(); c.Phase() != off || c != w.h.Cycle() {
		t.Errorf("phase %d", c.Phase())
	}
}

// P14.1: with no shapes there are none.
func TestNewNoShapes(t *testing.T) {
	for _, list := range [][]head.Shape{nil, {}, make([]head.Shape, 0, 9)} {
		h := created(t, 8, list)
		if got := h.Cycle().Table().Len(); got != 0 {
			t.Errorf("%d shapes", got)
		}
		if addr, e := h.Make(0, 2, &holder{}); addr != 0 || e != api.EARG {
			t.Errorf("Make of none: %d, %d", addr, e)
		}
		if n, e := h.Add(head.Shape{Fields: 1}); n != 0 || e != api.OK {
			t.Errorf("Add to none: %d, %d", n, e)
		}
	}
}

// wantTable wants the table to have these shapes, in this order, and no others.
func wantTable(t *testing.T, where string, h *heap.Heap, want ...head.Shape) {
	t.Helper()
	table := h.Cycle().Table()
	if table.Len() != len(want) {
		t.Errorf("%s: %d shapes, want %d", where, table.Len(), len(want))
	}
	for n, s := range want {
		if got, e := table.Shape(n); got != s || e != api.OK {
			t.Errorf("%s: number %d: %v, %d, want %v", where, n, got, e, s)
		}
	}
}

// P14.1: the table has the shapes in order, and one that comes twice once.
func TestNewTable(t *testing.T) {
	a, b, c := head.Shape{Fields: 3}, head.Shape{Kind: channel, Map: 1}, head.Shape{Kind: closure, Fields: 3}
	wantTable(t, "none", created(t, 8, nil))
	wantTable(t, "three", created(t, 8, []head.Shape{a, b, c}), a, b, c)
	wantTable(t, "otherwise", created(t, 8, []head.Shape{c, a, b}), c, a, b)
	wantTable(t, "twice", created(t, 8, []head.Shape{b, b, a, b, c, a}), b, a, c)
	wantTable(t, "one alone", created(t, 8, []head.Shape{a, a, a, a}), a)
	h := created(t, 8, yard())
	for shape, s := range yard() {
		if got, e := h.Cycle().Table().Shape(numberOf(shape)); got != s || e != api.OK {
			t.Errorf("the yard's %d: %v, %d", shape, got, e)
		}
	}
}

// P14.1: shape n is the n-th of shapes, also where some are the same.
func TestNewShapesByNumber(t *testing.T) {
	a, b := head.Shape{Fields: 1, Map: 1}, head.Shape{Kind: array}
	list := []head.Shape{a, a, b, a, b}
	h := created(t, 8, list)
	for n, want := range list {
		addr, e := h.Make(n, 2, &holder{})
		if _, s, ok := h.Of(addr); e != api.OK || !ok || s != want {
			t.Errorf("shape %d: %v, %v, %d", n, s, ok, e)
		}
	}
	if _, e := h.Make(len(list), 2, &holder{}); e != api.EARG {
		t.Errorf("shape %d: %d", len(list), e)
	}
}

// P14.1: each heap has words and shapes of its own.
func TestNewApart(t *testing.T) {
	v, w := begun(t, 8), begun(t, 8)
	w.wantSame("another heap", func() {
		v.h.Add(head.Shape{Fields: 9})
		addr := v.keep(pair, 3)
		v.h.Set(addr, 0, 7, false, true, 1)
		v.to(marking)
	})
	if n, e := w.h.Add(head.Shape{Fields: 10}); n != shapes || e != api.OK {
		t.Errorf("Add: %d, %d", n, e)
	}
}

func wantAdd(t *testing.T, h *heap.Heap, s head.Shape, want int) {
	t.Helper()
	if n, e := h.Add(s); n != want || e != api.OK {
		t.Errorf("Add(%v): %d, %d, want %d", s, n, e, want)
	}
}

// P14.1: Add of one that is there tells the least, and adds nothing.
func TestAddOfThose(t *testing.T) {
	w := begun(t, 8)
	for range 2 {
		w.wantSame("Add of one that is there", func() {
			for shape, s := range yard() {
				if shape != twin {
					wantAdd(t, w.h, s, shape)
				}
			}
		})
	}
	if _, e := w.h.Make(shapes, 2, w.r); e != api.EARG {
		t.Errorf("a shape more than there was: %d", e)
	}
	a, b := head.Shape{Fields: 4}, head.Shape{Fields: 5}
	h := created(t, 8, []head.Shape{a, a, b, a, b})
	wantAdd(t, h, b, 2)
	wantAdd(t, h, a, 0)
	wantAdd(t, h, head.Shape{Fields: 6}, 5)
}

// P14.1: Add of a new one: one more, which it is then, and can be made then.
func TestAddOfNew(t *testing.T) {
	w := begun(t, 8)
	fresh := []head.Shape{
		{Fields: 2}, {Fields: 2, Map: 1}, {Fields: 2, Map: 3}, {Fields: 3, Map: 2}, {Kind: closure, Fields: 2},
		{Fields: 63, Map: 1<<63 - 1}, {Kind: closure, Fields: 63}, {Kind: closure},
	}
	for k, s := range fresh {
		if _, e := w.h.Make(shapes+k, 2, w.r); e != api.EARG {
			t.Errorf("number %d is there already: %d", k, e)
		}
		wantAdd(t, w.h, s, shapes+k)
		addr := w.make(shapes+k, 2)
		if what, got, ok := w.h.Of(addr); !ok || got != s || what.Kind != s.Kind || what.Shape != numberOf(shapes+k) {
			t.Errorf("number %d: %v, %v, %v", k, what, got, ok)
		}
	}
	for k, s := range fresh {
		wantAdd(t, w.h, s, shapes+k)
	}
	for shape, s := range yard() {
		if shape != twin {
			wantAdd(t, w.h, s, shape)
		}
	}
	if got := w.h.Cycle().Table().Len(); got != shapes-1+len(fresh) {
		t.Errorf("the table has %d", got)
	}
}

// P14.1: Add of one that is not Good: EARG, again and again, and nothing is changed.
func TestAddRefuses(t *testing.T) {
	w := begun(t, 8)
	w.wantSame("Add of wrong shapes", func() {
		for _, s := range wrongShapes() {
			for range 2 {
				if n, e := w.h.Add(s); n != 0 || e != api.EARG {
					t.Errorf("Add(%v): %d, %d", s, n, e)
				}
			}
		}
	})
	if _, e := w.h.Make(shapes, 2, w.r); e != api.EARG {
		t.Errorf("a shape more than there was: %d", e)
	}
	wantAdd(t, w.h, head.Shape{Fields: 7}, shapes)
}

// P14.1: a shape that the table was told by another is none of the heap's, till it is added.
func TestAddOfTold(t *testing.T) {
	w := begun(t, 8)
	s := head.Shape{Fields: 8}
	w.h.Cycle().Table().Number(head.Shape{Fields: 9})
	w.h.Cycle().Table().Number(s)
	if _, e := w.h.Make(shapes, 2, w.r); e != api.EARG {
		t.Errorf("it is there already: %d", e)
	}
	wantAdd(t, w.h, s, shapes)
	if what, got, ok := w.h.Of(w.make(shapes, 9)); !ok || got != s || what.Shape != shapes {
		t.Errorf("%v, %v, %v", what, got, ok)
	}
}
