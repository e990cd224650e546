package heap_test

import (
	"math"
	"slices"
	"testing"

	"gantline/api"
)

func (w *world) wantMakeRefused(shape, words int) {
	w.t.Helper()
	if addr, e := w.h.Make(shape, words, w.r); addr != 0 || e != api.EARG {
		w.t.Errorf("Make(%d, %d): %d, %d", shape, words, addr, e)
	}
}

// wrongWords are numbers of words that no object has.
func wrongWords() []int {
	return []int{0, -1, -2, -64, math.MinInt, math.MinInt + 1, -1 << 32, api.MaxWords + 1, api.MaxWords + 2, 128, 1 << 32, 1<<32 + 1, math.MaxInt - 1, math.MaxInt}
}

// P14.1: no such shape, no such number of words, and both at once: EARG in each phase, and nothing is changed.
func TestMakeRefuses(t *testing.T) {
	for phase := range phases {
		w := begun(t, 8)
		w.make(pair, 3)
		w.to(phase)
		w.wantSame("Make that is refused", func() {
			for _, shape := range wrongInts(shapes) {
				w.wantMakeRefused(shape, 1)
				w.wantMakeRefused(shape, api.MaxWords)
				for _, words := range wrongWords() {
					w.wantMakeRefused(shape, words)
				}
			}
			for _, words := range wrongWords() {
				w.wantMakeRefused(0, words)
				w.wantMakeRefused(shapes-1, words)
			}
		})
	}
}

// P14.1: EARG of a heap that has no room is no reason for a collection.
func TestMakeRefusesWhereFull(t *testing.T) {
	w := begun(t, 8)
	w.fill(64)
	w.wantSame("Make that is refused", func() {
		w.wantMakeRefused(-1, 64)
		w.wantMakeRefused(shapes, 64)
		w.wantMakeRefused(0, 65)
		w.wantMakeRefused(0, 0)
	})
}

// wantObject wants an object of a shape of the yard there, with fields of 0 to its place's end.
func (w *world) wantObject(addr int64, shape, words int) {
	w.t.Helper()
	kind := yard()[shape].Kind
	if got, want := w.word(addr, 0), packed(w.t, words, kind, numberOf(shape)); got != want {
		w.t.Errorf("Make(%d, %d): the head is %d, want %d", shape, words, got, want)
	}
	for at := 1; at < w.room(addr); at++ {
		if got := w.word(addr, at); got != 0 {
			w.t.Errorf("Make(%d, %d): the word %d is %d", shape, words, at, got)
		}
	}
	what, s, ok := w.h.Of(addr)
	if !ok || what.Words != words || what.Kind != kind || what.Shape != numberOf(shape) || s != yard()[shape] {
		w.t.Errorf("Make(%d, %d): it is %v, %v, %v", shape, words, what, s, ok)
	}
}

// P14.1: every shape with every number of words: its head and its fields, and nothing was forced.
func TestMakeAll(t *testing.T) {
	for shape := range shapes {
		w := begun(t, 64)
		for words := 1; words <= api.MaxWords; words++ {
			addr := w.make(shape, words)
			w.wantObject(addr, shape, words)
			if room := w.room(addr); room < words || room >= 2*words && room > 2 {
				t.Errorf("Make(%d, %d): a place of %d words", shape, words, room)
			}
		}
		w.wantCounts("Make", 0, 0)
		if got := len(w.taken()); got != api.MaxWords {
			t.Errorf("%d places are taken", got)
		}
	}
}

// P14.1: the places are those that alloc finds, one behind the other.
func TestMakePlaces(t *testing.T) {
	w := begun(t, 8)
	for _, c := range []struct {
		shape, words int
		want         int64
	}{{pair, 3, 64}, {numbers, 1, 128}, {pipe, 5, 192}, {twin, 4, 68}, {bare, 2, 130}, {addresses, 64, 256}, {wide, 33, 320}} {
		if got := w.make(c.shape, c.words); got != c.want {
			t.Errorf("Make(%d, %d): %d, want %d", c.shape, c.words, got, c.want)
		}
	}
}

// P14.1: nobody is asked for roots while there is room.
func TestMakeAsksNobody(t *testing.T) {
	w := begun(t, 8)
	for range 7 {
		w.make(numbers, 64)
	}
	if w.r.begun != 0 {
		t.Errorf("asked %d times", w.r.begun)
	}
	w.wantCounts("Make", 0, 0)
}

// dirty fills an object's place with other words, its head too.
func (w *world) dirty(addr int64) {
	w.t.Helper()
	for at := range w.room(addr) {
		w.lay(addr, at, -1-int64(at))
	}
}

// P14.1: the fields are 0 where the place held other words: given back by a collection, or by a forced one.
func TestMakeWhereOthersWere(t *testing.T) {
	for _, words := range []int{1, 2, 3, 7, 16, 17, 32, 63, 64} {
		for _, forced := range []bool{false, true} {
			w := begun(t, 8)
			for _, addr := range w.fill(words) {
				w.dirty(addr)
			}
			full := len(w.taken())
			w.r.globals = nil
			if !forced {
				w.h.Cycle().Whole(w.r)
			}
			for shape := range shapes {
				if shape < full {
					w.wantObject(w.make(shape, words), shape, words)
				}
			}
			if (w.h.Forced() == 1) != forced {
				t.Errorf("%d words: %d forced", words, w.h.Forced())
			}
		}
	}
}

// P14.1: one that is made is there beside the others: theirs stay as they are.
func TestMakeLeavesOthers(t *testing.T) {
	w := begun(t, 16)
	first := w.keep(pair, 3)
	w.h.Set(first, 0, 77, false, true, 1)
	list := w.keep(numbers, 4)
	for i := range int64(3) {
		w.h.Put(list, i, 10+i, false, true, 1)
	}
	for shape := range shapes {
		for words := 1; words < 6; words++ {
			w.make(shape, words)
		}
	}
	if v, trap := w.h.Get(first, 0, false); v != 77 || trap != api.TrapNone {
		t.Errorf("Get: %d, %d", v, trap)
	}
	for i := range int64(3) {
		if v, trap := w.h.At(list, i, false); v != 10+i || trap != api.TrapNone {
			t.Errorf("At(%d): %d, %d", i, v, trap)
		}
	}
}

// P14.1, P8.3: in roots and mark what is made is marked and not grey; else it is not marked.
func TestMakeInPhases(t *testing.T) {
	for phase := range phases {
		w := begun(t, 16)
		w.make(numbers, 64)
		w.to(phase)
		left := w.h.Cycle().Marker().Left()
		addr := w.make(pair, 3)
		w.wantObject(addr, pair, 3)
		if got := slices.Contains(w.marked(), addr); got != (phase == roots || phase == marking) {
			t.Errorf("phase %d: marked %v", phase, got)
		}
		w.wantLeft("Make", left)
		w.wantCounts("Make", 0, 0)
		if got := w.h.Cycle().Phase(); got != phase {
			t.Errorf("phase %d behind Make in %d", got, phase)
		}
	}
}

// P14.1, P8.4: what is made while a collection goes along is there when it is done, though nobody holds it; the next one gives it back.
func TestMakeWhileCollecting(t *testing.T) {
	for _, phase := range []int{roots, marking, sweeping} {
		w := begun(t, 16)
		w.make(numbers, 64)
		w.to(phase)
		addr := w.make(caught, 3)
		w.to(off)
		w.wantTaken("done", addr)
		w.wantObject(addr, caught, 3)
		w.h.Cycle().Whole(w.r)
		w.wantTaken("done again")
	}
}

// P14.1: while spans are unswept, what is dead there makes room, with nothing forced.
func TestMakeWhileSweeping(t *testing.T) {
	w := begun(t, 8)
	for _, addr := range w.fill(64) {
		w.dirty(addr)
	}
	w.r.globals = nil
	w.to(sweeping)
	for n := range 7 {
		addr := w.make(addresses, 64)
		w.wantObject(addr, addresses, 64)
		if addr != int64(64*(n+1)) {
			t.Errorf("number %d: %d", n, addr)
		}
	}
	w.wantCounts("Make", 0, 0)
}
