package heap_test

import (
	"slices"
	"testing"

	"gantline/api"
)

// fill makes arrays of numbers, all of them held, till each place that the heap has for so many words is taken.
func (w *world) fill(words int) []int64 {
	w.t.Helper()
	var list []int64
	for {
		addr := w.keep(numbers, words)
		list = append(list, addr)
		if int(addr)+w.room(addr) == 64*w.h.Cycle().Arena().Spans() {
			return list
		}
	}
}

func (w *world) wantFull(where string, shape, words int) {
	w.t.Helper()
	if addr, e := w.h.Make(shape, words, w.r); addr != 0 || e != api.EFULL {
		w.t.Errorf("%s: Make(%d, %d): %d, %d, want EFULL", where, shape, words, addr, e)
	}
}

// P14.1: the last place is taken with nothing forced; one more is EFULL behind one whole collection, and so is each that comes.
func TestFull(t *testing.T) {
	for _, words := range []int{1, 2, 4, 8, 16, 32, 64} {
		w := begun(t, 8)
		list := w.fill(words)
		w.wantCounts("filled", 0, 0)
		for n := 1; n < 4; n++ {
			w.wantFull("full", pair, words)
			w.wantCounts("full", n, n)
			w.wantTaken("full", list...)
			if w.r.begun != n {
				t.Errorf("%d collections began, want %d", w.r.begun, n)
			}
		}
	}
}

// P14.1: no room of one class, though there is of another: that is EFULL too, of the first alone.
func TestFullOfOneClass(t *testing.T) {
	w := begun(t, 8)
	for range 6 {
		w.keep(numbers, 64)
	}
	w.keep(pair, 3)
	w.wantFull("no span", numbers, 8)
	w.wantCounts("no span", 1, 1)
	for range 15 {
		w.keep(pair, 4)
	}
	w.wantCounts("its span has room", 1, 1)
	w.wantFull("its span is full", pair, 4)
	w.wantCounts("its span is full", 2, 2)
}

// P14.1: what nobody holds is given back, and the one that is asked for is made: at once, by one whole collection.
func TestForcedGivesBack(t *testing.T) {
	w := begun(t, 8)
	list := w.fill(16)
	w.r.globals = []int64{list[3], list[20]}
	addr := w.make(addresses, 16)
	w.wantObject(addr, addresses, 16)
	w.wantTaken("forced", list[3], list[20], addr)
	w.wantCounts("forced", 1, 1)
	if w.r.begun != 1 || addr != 64 {
		t.Errorf("%d begun, at %d", w.r.begun, addr)
	}
	w.r.globals = append(w.r.globals, addr)
	for range 25 {
		w.keep(numbers, 16)
	}
	w.wantCounts("room again", 1, 1)
	w.wantFull("full again", numbers, 16)
	w.wantCounts("full again", 2, 2)
}

// P14.1: a span that is given back whole serves another class.
func TestForcedForAnotherClass(t *testing.T) {
	w := begun(t, 8)
	list := w.fill(2)
	// One of each span but the fourth stays.
	w.r.globals = nil
	for _, addr := range list {
		if addr%64 == 10 && addr/64 != 4 {
			w.r.globals = append(w.r.globals, addr)
		}
	}
	if got := w.keep(wide, 64); got != 4*64 {
		t.Errorf("made at %d", got)
	}
	w.wantCounts("forced", 1, 1)
	w.wantFull("again", wide, 64)
	w.wantCounts("again", 2, 2)
	w.wantTaken("again", w.r.globals...)
}

// P14.1, P8.3: a collection that is under way is done first: two are done then, and one was forced.
func TestForcedUnderWay(t *testing.T) {
	for _, phase := range []int{roots, marking, sweeping} {
		for _, held := range []bool{true, false} {
			w := begun(t, 8)
			list := w.fill(64)
			w.to(phase)
			if !held {
				w.r.globals = list[:3]
			}
			addr, e := w.h.Make(pair, 64, w.r)
			if held && (addr != 0 || e != api.EFULL) || !held && (addr != list[3] || e != api.OK) {
				t.Errorf("phase %d, held %v: %d, %d", phase, held, addr, e)
			}
			w.wantCounts("under way", 1, 2)
			if w.r.begun != 2 || w.h.Cycle().Phase() != off {
				t.Errorf("phase %d: %d begun, phase %d", phase, w.r.begun, w.h.Cycle().Phase())
			}
		}
	}
}

// P14.1: what can be come to is kept, by fields, elements, closures and channels, from globals and stacks; a number that looks like an address keeps nothing.
func TestForcedKeepsWhatIsReached(t *testing.T) {
	w := begun(t, 16)
	end := []int64{w.make(pair, 3), w.make(pair, 3), w.make(pair, 3), w.make(pair, 3)}
	lost := w.make(pair, 3)
	w.h.Set(end[0], 0, lost, false, true, 1)
	p, a, c, k := w.make(pair, 3), w.make(addresses, 4), w.make(caught, 3), w.make(pipes, 7)
	n := w.make(numbers, 4)
	w.h.Set(p, 1, end[0], true, true, 1)
	w.h.Put(a, 2, end[1], true, true, 1)
	w.lay(c, 2, end[2])
	w.lay(k, 6, end[3])
	w.h.Put(n, 2, lost, false, true, 1)
	w.r.globals = []int64{p, n}
	w.r.stacks = []stack{{4, []int64{a}}, {2, []int64{c, k}}}
	kept := append([]int64{p, a, c, k, n}, end...)
	for w.h.Forced() == 0 {
		w.make(numbers, 64)
	}
	last := w.taken()
	for _, addr := range kept {
		if !slices.Contains(last, addr) {
			t.Errorf("%d is gone", addr)
		}
	}
	if slices.Contains(last, lost) || len(last) != len(kept)+1 {
		t.Errorf("taken: %v, kept %v, lost %d", last, kept, lost)
	}
	if v, trap := w.h.Get(p, 1, true); v != end[0] || trap != api.TrapNone {
		t.Errorf("Get: %d, %d", v, trap)
	}
	if v, trap := w.h.At(a, 2, true); v != end[1] || trap != api.TrapNone {
		t.Errorf("At: %d, %d", v, trap)
	}
}

// P14.1: the roots that are asked are those that are handed in with the call, and no earlier ones.
func TestForcedAsksWhoIsHandedIn(t *testing.T) {
	w := begun(t, 8)
	list := w.fill(64)
	first := w.r
	w.r = &holder{globals: list[:2]}
	addr := w.make(numbers, 64)
	w.wantTaken("another holder", list[0], list[1], addr)
	if first.begun != 0 || w.r.begun != 1 {
		t.Errorf("asked %d and %d times", first.begun, w.r.begun)
	}
}

// asker is a holder that looks at the heap while it is asked.
type asker struct {
	holder
	look func()
}

func (a *asker) Globals() []int64 {
	a.look()
	return a.holder.Globals()
}

// P14.1, R8: the collection comes ahead of the count.
func TestForcedOrder(t *testing.T) {
	w := begun(t, 8)
	list := w.fill(64)
	seen := []int{}
	a := &asker{holder{globals: list}, func() { seen = append(seen, w.h.Forced()) }}
	for range 3 {
		if addr, e := w.h.Make(pair, 64, a); addr != 0 || e != api.EFULL {
			t.Errorf("Make: %d, %d", addr, e)
		}
	}
	if !slices.Equal(seen, []int{0, 1, 2}) || w.h.Forced() != 3 {
		t.Errorf("Forced() while asked: %v, behind it %d", seen, w.h.Forced())
	}
}

// P14.1: Forced counts what Make forces alone: not collections that are run otherwise, not calls that are refused or trapped.
func TestForcedOtherwiseStays(t *testing.T) {
	w := begun(t, 8)
	list := w.fill(64)
	w.h.Cycle().Whole(w.r)
	w.to(sweeping)
	w.to(off)
	w.h.Make(-1, 64, w.r)
	w.h.Make(0, 65, w.r)
	w.h.Get(list[0], 0, true)
	w.h.At(list[0], 99, false)
	w.wantCounts("nothing forced", 0, 2)
	w.wantFull("full", pair, 64)
	w.wantCounts("forced", 1, 3)
}

// P14.1, T4: a heap goes on and on, as long as what is held fits it.
func TestForcedOnAndOn(t *testing.T) {
	w := begun(t, 8)
	for n := range 5000 {
		addr := w.make([]int{pair, numbers, addresses, caught}[n%4], 1+n*7%64)
		w.r.globals = append(w.r.globals, addr)
		if len(w.r.globals) > 2 {
			w.r.globals = w.r.globals[1:]
		}
	}
	if f := w.h.Forced(); f < 100 || w.h.Cycle().Done() != f {
		t.Errorf("%d forced, %d done", f, w.h.Cycle().Done())
	}
}
