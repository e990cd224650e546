package cycle_test

import (
	"math"
	"testing"

	"gantline/api"
	"gantline/head"
)

// P8.3: in roots and mark the place is marked at once, and not grey; else it is not marked.
func TestTakeInEachPhase(t *testing.T) {
	for phase := range 4 {
		w := in(t, phase)
		var want []int64
		for _, words := range []int{1, 2, 3, 4, 5, 8, 9, 16, 17, 32, 33, 64} {
			addr := w.take(words)
			if !w.c.Arena().Is(addr) {
				t.Errorf("Take(%d) in phase %d: %d is not taken", words, phase, addr)
			}
			if phase == roots || phase == marking {
				want = append(want, addr)
			}
			w.wantMarked(want...)
			w.wantLeft(0)
			w.wantPhase(phase)
		}
	}
}

// P8.3: the place is alloc's: the least that is free, with words 0.
func TestTakePlaces(t *testing.T) {
	for _, phase := range []int{off, roots, marking, sweeping} {
		w := sized(t, 8)
		w.to(phase)
		for _, c := range []struct {
			words int
			want  int64
		}{{2, 64}, {64, 128}, {2, 66}, {1, 68}, {4, 192}, {3, 196}, {33, 256}} {
			if addr := w.take(c.words); addr != c.want {
				t.Errorf("Take(%d) in phase %d: %d, want %d", c.words, phase, addr, c.want)
			}
		}
	}
	w := begun(t)
	addr := w.take(3)
	for at := range 4 {
		w.write(addr, at, 9)
	}
	w.whole()
	if again := w.take(4); again != addr {
		t.Errorf("Take(4): %d, want %d", again, addr)
	}
	for at := range 4 {
		if v, e := w.c.Arena().Read(addr, at); v != 0 || e != api.OK {
			t.Errorf("word %d of what was taken again: %d, %d", at, v, e)
		}
	}
}

// P8.3: alloc's errors, in each phase.
func TestTakeRefuses(t *testing.T) {
	for phase := range 4 {
		w := in(t, phase)
		w.wantSame("Take", func() {
			for _, words := range []int{0, 65, -1, -64, 128, 1 << 32, 1<<32 + 2, math.MinInt, math.MaxInt} {
				if addr, e := w.c.Take(words); addr != 0 || e != api.EARG {
					t.Errorf("Take(%d) in phase %d: %d, %d", words, phase, addr, e)
				}
			}
		})
	}
}

// P8.3: no room, in each phase; but while it is swept, what is not marked is room.
func TestTakeOfFull(t *testing.T) {
	for phase := range 4 {
		w := begun(t)
		for range 15 {
			w.h.globals = append(w.h.globals, w.take(64))
		}
		w.to(phase)
		for _, words := range []int{1, 2, 64} {
			if addr, e := w.c.Take(words); addr != 0 || e != api.EFULL {
				t.Errorf("Take(%d) in phase %d: %d, %d", words, phase, addr, e)
			}
		}
		w.wantPhase(phase)
		w.wantTaken(w.h.globals...)
		if phase == roots || phase == off {
			w.wantSame("Take", func() { w.c.Take(64) })
		}
	}
	w := begun(t)
	for range 15 {
		w.h.globals = append(w.h.globals, w.take(64))
	}
	lost := w.h.globals[7]
	w.h.globals[7] = 0
	w.to(marking)
	if _, e := w.c.Take(64); e != api.EFULL {
		t.Errorf("Take(64) in mark: %d", e)
	}
	w.to(sweeping)
	if addr := w.take(64); addr != lost {
		t.Errorf("Take(64) in sweep: %d, want %d", addr, lost)
	}
	w.wantMarked(append(w.h.globals[:7:7], w.h.globals[8:]...)...)
	w.to(off)
	w.wantTaken(append(w.h.globals[:7:7], append(w.h.globals[8:], lost)...)...)
}

// P8.3: what is taken while it marks is not looked at, unless somebody shades what it holds.
func TestTakeIsNotLookedAt(t *testing.T) {
	for _, phase := range []int{roots, marking} {
		w := begun(t)
		old := w.link()
		w.to(phase)
		w.link(old)
		w.to(sweeping)
		if w.isMarked(old) {
			t.Errorf("what was taken in phase %d was looked at", phase)
		}
	}
}

// P8.3: what is taken while it sweeps stays, in a span that was swept and in one that was not.
func TestTakeInSweepStays(t *testing.T) {
	for steps := range 5 {
		w := begun(t)
		kept := w.link()
		w.link()
		w.take(64)
		w.take(2)
		w.h.globals = []int64{kept}
		w.to(sweeping)
		for range steps {
			w.c.Step(w.h)
		}
		a, b, c, d := w.link(), w.take(64), w.take(2), w.take(16)
		w.wantMarked(kept)
		w.to(off)
		w.wantTaken(kept, a, b, c, d)
		w.whole()
		w.wantTaken(kept)
	}
}

// P8.3: at first, by two words at a time, and by places whose words no object uses up.
func TestWantsAtFirst(t *testing.T) {
	w := begun(t)
	for n := range 70 {
		w.wantWants(2*n >= 128)
		w.take(1 + n%2)
	}
	for _, c := range []struct {
		words []int
		want  bool
	}{
		{[]int{63}, false},
		{[]int{64}, false},
		{[]int{64, 32, 16, 8, 4, 2}, false},
		{[]int{64, 32, 16, 8, 4, 2, 1}, true},
		{[]int{64, 63}, true},
		{[]int{33, 33}, true},
		{[]int{64, 64}, true},
		{[]int{64, 64, 2}, true},
	} {
		w := begun(t)
		for _, words := range c.words {
			w.take(words)
		}
		w.wantSame("Wants", func() { w.wantWants(c.want) })
	}
}

// P8.3: only off.
func TestWantsInEachPhase(t *testing.T) {
	for _, phase := range []int{off, roots, marking, sweeping} {
		w := begun(t)
		for range 8 {
			w.h.globals = append(w.h.globals, w.take(64))
		}
		w.wantWants(true)
		w.to(phase)
		w.wantWants(phase == off)
	}
}

// P8.3: behind a collection that left so many words, twice as many, and 128 at least.
func TestWantsBehindCollection(t *testing.T) {
	for _, c := range []struct{ left, want int }{
		{0, 128}, {2, 128}, {62, 128}, {64, 128}, {66, 132}, {68, 136}, {100, 200}, {256, 512},
	} {
		w := begun(t)
		for range c.left / 2 {
			w.h.globals = append(w.h.globals, w.take(2))
		}
		w.take(64)
		w.take(64)
		w.take(64)
		w.wantWants(true)
		w.whole()
		if used := w.used(); used != c.left {
			t.Fatalf("%d words are left, want %d", used, c.left)
		}
		for w.used() < c.want {
			w.wantWants(false)
			w.take(2)
		}
		w.wantWants(true)
		w.take(2)
		w.wantWants(true)
	}
}

// P8.3: it is the last collection that counts, whether it left more than that ahead of it or fewer.
func TestWantsOfTheLast(t *testing.T) {
	w := begun(t)
	for _, left := range []int{200, 80, 10, 300, 64, 128, 0} {
		w.h.globals = nil
		w.c.Whole(w.h)
		for range left / 2 {
			w.h.globals = append(w.h.globals, w.take(2))
		}
		w.c.Whole(w.h)
		for w.used() < max(2*left, 128) {
			w.wantWants(false)
			w.take(2)
		}
		w.wantWants(true)
	}
}

// P8.3: the words that are used when it is done count, not those when it began or marked.
func TestWantsCountsWhenDone(t *testing.T) {
	w := begun(t)
	w.h.globals = []int64{w.take(64)}
	w.to(roots)
	w.h.globals = append(w.h.globals, w.take(64))
	w.to(marking)
	w.h.globals = append(w.h.globals, w.take(64))
	w.to(sweeping)
	w.take(64)
	w.to(off)
	// 256 words were used then.
	for range 4 {
		w.wantWants(false)
		w.take(64)
	}
	w.wantWants(true)
}

// P8.3: objects' own sizes do not count, their places' do.
func TestWantsCountsPlaces(t *testing.T) {
	w := begun(t)
	for range 3 {
		w.thing(head.Shape{Kind: 1}, make([]int64, 16)...)
	}
	w.wantWants(false)
	w.thing(head.Shape{Kind: 1}, make([]int64, 16)...)
	w.wantWants(true)
}
