package heap_test

import (
	"math"
	"slices"
	"testing"

	"gantline/api"
	"gantline/head"
)

// wantNothing wants that there is no object there, by all calls that ask.
func (w *world) wantNothing(where string, addr int64) {
	w.t.Helper()
	if what, s, ok := w.h.Of(addr); ok || what != (head.Head{}) || s != (head.Shape{}) {
		w.t.Errorf("%s: Of(%d): %v, %v, %v", where, addr, what, s, ok)
	}
	for _, address := range []bool{false, true} {
		for _, at := range []int{-1, 0, 1, 63} {
			w.wantTraps(where, addr, at, address, api.TrapNil, api.TrapNil)
		}
	}
	w.wantLen(where, addr, 0, api.TrapNil)
}

// wantTraps wants Get and Set to say field, At and Put to say element, and nothing to be changed.
func (w *world) wantTraps(where string, addr int64, at int, address bool, field, element api.Trap) {
	w.t.Helper()
	before := w.picture()
	if v, trap := w.h.Get(addr, at, address); v != 0 || trap != field {
		w.t.Errorf("%s: Get(%d, %d, %v): %d, %d, want %d", where, addr, at, address, v, trap, field)
	}
	if v, trap := w.h.At(addr, int64(at), address); v != 0 || trap != element {
		w.t.Errorf("%s: At(%d, %d, %v): %d, %d, want %d", where, addr, at, address, v, trap, element)
	}
	for _, barrier := range []bool{false, true} {
		for _, id := range []int{-1, 1, 2} {
			if trap := w.h.Set(addr, at, 64, address, barrier, id); trap != field {
				w.t.Errorf("%s: Set(%d, %d, %v): %d, want %d", where, addr, at, address, trap, field)
			}
			if trap := w.h.Put(addr, int64(at), 64, address, barrier, id); trap != element {
				w.t.Errorf("%s: Put(%d, %d, %v): %d, want %d", where, addr, at, address, trap, element)
			}
		}
	}
	if !slices.Equal(w.picture(), before) {
		w.t.Errorf("%s: a call that trapped at %d, %d changed something", where, addr, at)
	}
}

func (w *world) wantLen(where string, addr, want int64, trap api.Trap) {
	w.t.Helper()
	if n, x := w.h.Len(addr); n != want || x != trap {
		w.t.Errorf("%s: Len(%d): %d, %d, want %d, %d", where, addr, n, x, want, trap)
	}
}

// P14.1: where no place begins there is nothing: of an empty heap and of one with objects.
func TestOfNowhere(t *testing.T) {
	empty, w := begun(t, 16), begun(t, 16)
	for shape := range shapes {
		for words := 1; words < 20; words++ {
			w.make(shape, words)
		}
	}
	for _, addr := range nowhere() {
		empty.wantNothing("empty", addr)
		w.wantNothing("nowhere", addr)
	}
	empty.wantNothing("no class", 64)
	w.wantNothing("its end", 16*64)
}

// P14.1: Of at every address of a heap: an object at those that were made, and nothing else anywhere, though a word within looks like a head.
func TestOfEverywhere(t *testing.T) {
	w := begun(t, 24)
	type object struct{ shape, words int }
	made := map[int64]object{}
	for shape := range shapes {
		for words := 1; words < 9; words++ {
			made[w.make(shape, words)] = object{shape, words}
		}
	}
	for addr := range made {
		for at := 1; at < w.room(addr); at++ {
			w.lay(addr, at, packed(t, 2, plain, 0))
		}
	}
	for addr := int64(-70); addr < 24*64+70; addr++ {
		want, is := made[addr]
		what, s, ok := w.h.Of(addr)
		if ok != is || !is && (what != (head.Head{}) || s != (head.Shape{})) {
			t.Errorf("Of(%d): %v, %v, %v", addr, what, s, ok)
		}
		if is && (what != (head.Head{Words: want.words, Kind: yard()[want.shape].Kind, Shape: numberOf(want.shape)}) || s != yard()[want.shape]) {
			t.Errorf("Of(%d): %v, %v, want %v", addr, what, s, want)
		}
	}
}

// P14.1: a place that is taken, with a first word that is no head.
func TestOfNoHead(t *testing.T) {
	w := begun(t, 8)
	addr, e := w.h.Cycle().Take(4)
	if e != api.OK {
		t.Fatalf("Take: %d", e)
	}
	w.wantNothing("no word was written", addr)
	good := packed(t, 3, plain, 0)
	for _, word := range []int64{
		64 << 7, 65, 127, good &^ 127, good | 1<<6 | 1, good | 4<<7, good | 1<<26, good | 1<<61, good | 1<<62,
		good | math.MinInt64, -good, -1, math.MaxInt64, math.MinInt64,
	} {
		w.lay(addr, 0, word)
		w.wantNothing("no head", addr)
	}
	w.lay(addr, 0, good)
	if what, s, ok := w.h.Of(addr); !ok || what != (head.Head{Words: 3}) || s != yard()[0] {
		t.Errorf("a head: %v, %v, %v", what, s, ok)
	}
}

// P14.1: a head of a shape that the table lacks: the next one, others, the last that there could be. Once it is there, it is one.
func TestOfNoShape(t *testing.T) {
	w := begun(t, 8)
	addr := w.make(pair, 3)
	count := w.h.Cycle().Table().Len()
	for _, number := range []int{count, count + 1, 255, 256, 65535} {
		for kind := range 4 {
			w.lay(addr, 0, packed(t, 3, kind, number))
			w.wantNothing("no shape", addr)
		}
	}
	w.lay(addr, 0, packed(t, 3, plain, count))
	w.h.Add(head.Shape{Fields: 2})
	if what, s, ok := w.h.Of(addr); !ok || what != (head.Head{Words: 3, Shape: count}) || s != (head.Shape{Fields: 2}) {
		t.Errorf("added: %v, %v, %v", what, s, ok)
	}
	w.lay(addr, 0, packed(t, 3, plain, count-1))
	if _, s, ok := w.h.Of(addr); !ok || s != yard()[shapes-1] {
		t.Errorf("the last: %v, %v", s, ok)
	}
}

// P14.1: the shape is the one of the head's number in the table, also of one that the heap itself has not.
func TestOfTableShape(t *testing.T) {
	w := begun(t, 8)
	addr := w.make(pair, 3)
	number, _ := w.h.Cycle().Table().Number(head.Shape{Fields: 11, Map: 9})
	w.lay(addr, 0, packed(t, 2, plain, number))
	if _, got, ok := w.h.Of(addr); !ok || got != (head.Shape{Fields: 11, Map: 9}) {
		t.Errorf("Of: %v, %v", got, ok)
	}
	for shape := range shapes {
		w.lay(addr, 0, packed(t, 2, array, numberOf(shape)))
		if what, got, ok := w.h.Of(addr); !ok || got != yard()[shape] || what.Kind != array {
			t.Errorf("shape %d: %v, %v, %v", shape, what, got, ok)
		}
	}
}

// P14.1: what was given back is nothing; while it is still unswept, it is there.
func TestOfGivenBack(t *testing.T) {
	w := begun(t, 8)
	held, lost := w.keep(pair, 3), w.make(pair, 3)
	alone := w.make(numbers, 64)
	w.to(sweeping)
	for _, addr := range []int64{held, lost, alone} {
		if _, _, ok := w.h.Of(addr); !ok {
			t.Errorf("%d is gone too early", addr)
		}
	}
	w.to(off)
	if _, _, ok := w.h.Of(held); !ok {
		t.Errorf("what is held is gone")
	}
	w.wantNothing("given back", lost)
	w.wantNothing("its span too", alone)
}

// P14.1: Of changes nothing, in each phase.
func TestOfChangesNothing(t *testing.T) {
	for phase := range phases {
		w := begun(t, 8)
		list := []int64{w.keep(pair, 3), w.make(pipes, 9)}
		w.to(phase)
		w.wantSame("Of, Len", func() {
			for _, addr := range append(nowhere(), list...) {
				w.h.Of(addr)
				w.h.Len(addr)
			}
		})
	}
}
