package cycle_test

import (
	"slices"
	"testing"

	"gantline/api"
	"gantline/head"
)

// P8.3: from off one collection, from any other phase two; all that is dead by then is given back.
func TestWholeFromEachPhase(t *testing.T) {
	for phase := range 4 {
		w := begun(t)
		kept := w.link(w.link())
		dies, late := w.link(w.link()), w.link()
		w.take(64)
		w.h.globals = []int64{kept, dies}
		w.h.comes(7, late)
		w.to(phase)
		// The collection that is under way may have shaded it already, and keeps what is made now.
		w.h.globals[1] = 0
		w.link(kept)
		w.c.Whole(w.h)
		w.wantPhase(off)
		w.wantTaken(append(w.c.Marker().Fields(kept), kept, late)...)
		w.wantMarked(append(w.c.Marker().Fields(kept), kept, late)...)
		w.wantLeft(0)
		w.wantBlack(7)
		if phase == off {
			w.wantDone(1)
		} else {
			w.wantDone(2)
		}
	}
}

// P8.3: from within each phase, at every step of a collection.
func TestWholeFromEachStep(t *testing.T) {
	for steps := range 30 {
		w := begun(t)
		first, second := w.leaders(4)
		w.take(64)
		w.h.globals = first[:2]
		w.h.comes(1, first[2])
		w.h.comes(2, first[3])
		w.to(roots)
		for range steps {
			w.c.Step(w.h)
		}
		done := w.c.Done() + 2
		if w.c.Phase() == off {
			done--
		}
		w.h.globals = nil
		w.h.goes(1)
		w.c.Dies(1)
		w.c.Whole(w.h)
		w.wantPhase(off)
		w.wantDone(done)
		w.wantTaken(first[3], second[3])
	}
}

// P8.3: of an empty heap, and again and again.
func TestWholeOfNothing(t *testing.T) {
	w := begun(t)
	for n := range 5 {
		w.c.Whole(w.h)
		w.wantPhase(off)
		w.wantDone(n + 1)
		w.wantTaken()
	}
}

// P8.3: stacks that came unseen, in any order, and with wrong addresses, are looked at.
func TestWholeOverStacks(t *testing.T) {
	for phase := range 4 {
		w := begun(t)
		a, b := w.link(), w.link()
		w.h.globals = append(nowhere(), a+1)
		w.to(phase)
		w.h.comes(9, append(nowhere(), b, b+1)...)
		w.h.comes(-2)
		w.h.comes(3, a, a)
		w.c.Whole(w.h)
		w.wantPhase(off)
		w.wantBlack(-2, 3, 9)
		w.wantMarked(w.reached()...)
	}
}

// reached tells what can be come to now.
func (w *world) reached() []int64 { return w.c.Marker().Reach(w.h.all()...) }

// P8.3: behind it there is room for all that fits beside what is reached.
func TestWholeMakesRoom(t *testing.T) {
	w := sized(t, 8)
	for turn := range 20 {
		for {
			if _, e := w.c.Take(64); e == api.EFULL {
				break
			}
			if turn%3 == 1 {
				w.c.Start(w.h)
			}
			for range turn % 5 {
				w.c.Step(w.h)
			}
		}
		w.c.Whole(w.h)
		w.wantTaken()
		for range 7 {
			w.take(64)
		}
	}
}

// written tells all words of a place.
func (w *world) written(addr int64) []int64 {
	var all []int64
	for at := 0; ; at++ {
		v, e := w.c.Arena().Read(addr, at)
		if e != api.OK {
			return all
		}
		all = append(all, v)
	}
}

// P8.4: what is reached is there with its words, by globals, stacks, long ways and rings; the rest is given back, rings too.
func TestReachedStays(t *testing.T) {
	w := sized(t, 64)
	list := head.Shape{Kind: 1, Map: 1}
	ring, deadRing := w.link(), w.link()
	w.write(ring, 2, w.link(w.link(ring)))
	w.write(deadRing, 2, w.link(w.link(deadRing)))
	way := w.thing(list)
	for n := range 100 {
		way = w.thing(list, append(make([]int64, n%20), way)...)
	}
	w.link(way, ring)
	mixed := w.thing(head.Shape{Fields: 4, Map: 5}, w.link(), w.link(), w.link(), 12345)
	w.h.globals = []int64{ring, mixed}
	w.h.comes(4, way)
	reached := w.reached()
	words := map[int64][]int64{}
	for _, addr := range reached {
		words[addr] = w.written(addr)
	}
	for range 3 {
		w.whole()
		w.wantTaken(reached...)
		for _, addr := range reached {
			if got := w.written(addr); !slices.Equal(got, words[addr]) {
				t.Errorf("words of %d: %v, want %v", addr, got, words[addr])
			}
		}
	}
}

// P8.4: made at any step of a collection, and reached by a stack that was black or not, it is there when it is done.
func TestMadeSinceStays(t *testing.T) {
	for steps := range 25 {
		w := begun(t)
		old := w.link(w.link())
		w.take(2)
		w.h.globals = []int64{old}
		w.h.comes(1)
		w.h.comes(2)
		w.to(roots)
		for range steps {
			w.c.Step(w.h)
		}
		made := w.link(old, 0)
		w.h.stacks[0].held = []int64{made}
		inner := w.thing(head.Shape{Kind: 1}, 7, 8, 9, 10, 11)
		w.c.Barrier(0, inner, 1)
		w.write(made, 2, inner)
		w.to(off)
		want := append(w.c.Marker().Fields(old), old, made, inner)
		w.wantTaken(want...)
		if got := w.written(inner); !slices.Equal(got[1:], []int64{7, 8, 9, 10, 11, 0, 0}) {
			t.Errorf("words of what was made: %v", got)
		}
	}
}

// P8.4: an address that moves from one object to another, at any step, by a stack that was looked at or not.
func TestMovedStays(t *testing.T) {
	for steps := range 25 {
		for id := range 3 {
			w := begun(t)
			moved := w.link(w.link())
			from, to := w.link(moved), w.link()
			w.h.globals = []int64{to, from}
			w.h.comes(1)
			w.h.comes(2)
			if steps%2 == 1 {
				slices.Reverse(w.h.globals)
			}
			w.to(roots)
			for range steps {
				w.c.Step(w.h)
			}
			w.c.Barrier(0, moved, id)
			w.write(to, 3, moved)
			w.c.Barrier(moved, 0, id)
			w.write(from, 1, 0)
			w.to(off)
			w.wantTaken(append(w.c.Marker().Fields(moved), moved, from, to)...)
		}
	}
}

// P8.4: an address that is read into a black stack, and then is nowhere else.
func TestReadByBlackStays(t *testing.T) {
	for steps := range 25 {
		w := begun(t)
		read := w.link(w.link())
		top := w.link(w.link(), w.link(read))
		w.h.globals = []int64{top}
		w.h.comes(1)
		w.to(roots)
		for range steps {
			w.c.Step(w.h)
		}
		holder := w.c.Marker().Fields(top)[1]
		w.h.stacks[0].held = []int64{read}
		w.c.Barrier(read, 0, 1)
		w.write(holder, 1, 0)
		w.to(off)
		reached := w.reached()
		if len(reached) != 5 {
			t.Errorf("behind %d steps there are %v", steps, reached)
		}
		w.wantTaken(reached...)
	}
}

// P8.4: what is not reached at Start is given back when it is done, and its place is taken again, with words 0.
func TestDeadIsGivenBack(t *testing.T) {
	w := begun(t)
	kept := w.link()
	dead := w.thing(head.Shape{Kind: 1, Map: 1}, 1, kept, 3)
	w.write(dead, 1, dead)
	w.h.globals = []int64{kept}
	w.to(roots)
	for w.c.Phase() != off {
		w.c.Step(w.h)
	}
	w.wantTaken(kept)
	if w.c.Arena().Is(dead) {
		t.Fatalf("%d is still there", dead)
	}
	if again := w.take(4); again != dead {
		t.Errorf("Take(4): %d, want %d", again, dead)
	}
	if got := w.written(dead); !slices.Equal(got, []int64{0, 0, 0, 0}) {
		t.Errorf("words: %v", got)
	}
}

// P8.4: what dies while a collection is under way may stay, but not beyond the next one.
func TestDeadByTheNext(t *testing.T) {
	for steps := range 12 {
		w := begun(t)
		dies := w.link(w.link())
		w.h.globals = []int64{dies}
		w.to(roots)
		for range steps {
			w.c.Step(w.h)
		}
		w.c.Barrier(dies, 0, 1)
		w.h.globals = nil
		w.to(off)
		w.whole()
		w.wantTaken()
	}
}

// P8.4: a stack whose number another one had is looked at.
func TestNumberAgainStays(t *testing.T) {
	w := begun(t)
	addr := w.link()
	w.h.comes(1, addr)
	w.h.comes(2)
	w.to(roots)
	w.wantScan(2, true, true)
	w.h.goes(2)
	w.c.Dies(2)
	w.h.comes(2, addr)
	w.h.goes(1)
	w.c.Dies(1)
	w.to(off)
	w.wantTaken(addr)
}
