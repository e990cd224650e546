package heap_test

import (
	"reflect"
	"slices"
	"testing"

	"gantline/api"
	"gantline/head"
)

// roomy lays a list into a longer one, filled with something else behind it.
func roomy[T any](list []T, other T) []T {
	whole := append(slices.Clone(list), slices.Repeat([]T{other}, 20)...)
	return whole[:len(list)]
}

func full[T any](list []T) []T { return slices.Clone(list[:cap(list)]) }

// R4: the shapes are not changed, spare room included, by New or by any later call.
func TestShapesStay(t *testing.T) {
	list := roomy(yard(), head.Shape{Kind: 9})
	before := full(list)
	w := &world{t, created(t, 8, list), &holder{}}
	w.h.Add(head.Shape{Fields: 9})
	w.h.Add(head.Shape{Fields: 10})
	for shape := range shapes + 2 {
		w.make(shape, 3)
	}
	w.h.Cycle().Table().Number(head.Shape{Fields: 11})
	if !slices.Equal(full(list), before) {
		t.Errorf("the shapes were changed: %v", full(list))
	}
	bad := roomy(append(yard(), head.Shape{Kind: 4}), head.Shape{})
	before = full(bad)
	wantNoHeap(t, "a wrong one", 8, bad, api.EARG)
	if !slices.Equal(full(bad), before) {
		t.Errorf("the shapes were changed: %v", full(bad))
	}
}

// R4: the shapes are not kept: what is written into the list later changes no shape.
func TestShapesAreNotKept(t *testing.T) {
	list := roomy(yard(), head.Shape{Kind: 9})
	w := &world{t, created(t, 16, list), &holder{}}
	for k := range list[:cap(list)] {
		list[:cap(list)][k] = head.Shape{Kind: 7, Fields: -1}
	}
	for shape, s := range yard() {
		w.wantObject(w.make(shape, 3), shape, 3)
		if shape != twin {
			wantAdd(t, w.h, s, shape)
		}
	}
	wantAdd(t, w.h, head.Shape{Fields: 9}, shapes)
}

// R4: what roots answer is not changed and not kept by a forced collection.
func TestRootsStay(t *testing.T) {
	w := begun(t, 8)
	list := w.fill(64)
	w.r.globals = roomy(list[:4], 7)
	w.r.stacks = []stack{{3, roomy(list[4:6], 9)}, {1, roomy(list[6:], 11)}}
	globals, held, more := full(w.r.globals), full(w.r.stacks[0].held), full(w.r.stacks[1].held)
	w.wantFull("all is held", pair, 64)
	if !slices.Equal(full(w.r.globals), globals) || !slices.Equal(full(w.r.stacks[0].held), held) || !slices.Equal(full(w.r.stacks[1].held), more) {
		t.Errorf("the roots were changed: %v", w.r)
	}
	if !reflect.DeepEqual(w.r.Stacks(), []int{3, 1}) {
		t.Errorf("the stacks were changed: %v", w.r.Stacks())
	}
	w.r.globals[0], w.r.stacks[0].held[0] = 0, 0
	addr := w.make(pair, 64)
	w.wantTaken("asked anew", append([]int64{list[1], list[2], list[3], list[5], addr}, list[6:]...)...)
}

// R5: two heaps that are told the same say the same.
func TestToldTheSame(t *testing.T) {
	v, w := begun(t, 8), begun(t, 8)
	for n := range 600 {
		for _, x := range []*world{v, w} {
			addr := x.make(n%shapes, 1+n*13%64)
			x.h.Set(addr, 0, int64(n), false, true, n)
			x.h.Put(addr, 0, int64(n), false, true, n)
			x.r.globals = []int64{addr}
			if n%7 == 0 {
				x.to(n % phases)
			}
		}
		if !slices.Equal(v.picture(), w.picture()) {
			t.Fatalf("number %d: they are not the same", n)
		}
	}
}

// R5: asked again, it says the same.
func TestAskedAgain(t *testing.T) {
	w := begun(t, 8)
	addr, list := w.make(pair, 3), w.make(addresses, 3)
	w.wantSet(addr, 1, list, true, true, 1)
	w.wantPut(list, 1, addr, true, true, 1)
	for range 3 {
		w.wantGet(addr, 1, true, list)
		w.wantAt(list, 1, true, addr)
		w.wantLen("again", list, 2, api.TrapNone)
		w.wantTraps("again", list, 2, true, api.TrapNil, api.TrapIndex)
	}
}
