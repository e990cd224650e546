package vm_test

import (
	"slices"
	"testing"

	"gantline/api"
	"gantline/code"
	"gantline/op"
)

// P17.2: Collect in each phase: Start, then Step by Step.
func TestCollect(t *testing.T) {
	w := begun(t, begins("na", in(op.New, 1, pair), poll(), in(op.Get, 0, 1, 0)))
	w.do(1)
	c := w.Heap().Cycle()
	// Begun; the stack is looked at; no stack is left; the object is looked at; none is left; a span is swept; none is left.
	for n, want := range []struct{ phase, grey, done int }{{roots, 0, 0}, {roots, 1, 0}, {marking, 1, 0}, {marking, 0, 0}, {sweeping, 0, 0}, {sweeping, 0, 0}, {off, 0, 1}, {roots, 0, 1}} {
		if !w.Collect() {
			t.Fatalf("step %d is refused", n)
		}
		if c.Phase() != want.phase || c.Marker().Left() != want.grey || c.Done() != want.done {
			t.Errorf("behind step %d: phase %d, %d grey, %d done, want %v", n, c.Phase(), c.Marker().Left(), c.Done(), want)
		}
	}
}

// P17.2, T4: what cannot be come to is given back by a collection; what can be is not, and keeps its words.
func TestCollectGivesBack(t *testing.T) {
	w := chain(t)
	w.to(roots)
	w.to(off)
	a := w.Heap().Cycle().Arena()
	for addr := int64(64); addr < 128; addr += 4 {
		if want := slices.Contains([]int64{64, 68, 72, 76, 84}, addr); a.Is(addr) != want {
			t.Errorf("%d is taken: %v", addr, !want)
		}
	}
	if w.held(72, 1) != 68 || w.held(68, 1) != 64 || w.held(84, 1) != 76 {
		t.Errorf("words are changed")
	}
}

// P17.2: Collect changes nothing that a program can tell.
func TestCollectIsNotSeen(t *testing.T) {
	w := chain(t)
	for range 60 {
		live, stack, globals := w.Live(), w.Stack(1), w.Globals()
		w.Collect()
		w.wantSound("behind Collect")
		if !slices.Equal(w.Live(), live) || !slices.Equal(w.Stack(1), stack) || !slices.Equal(w.Globals(), globals) {
			t.Fatalf("phase %d: what is live is changed", w.phase())
		}
	}
	w.wantRun("on", "[] 1 0")
}

// P17.4: a collection that was begun is done behind a bounded number of Collects, whatever is done between: a step for each goroutine, each place, each span, and a few.
func TestCollectIsBounded(t *testing.T) {
	const spans = 10
	bound := 2*api.MaxGos + 32*spans + spans + 8
	d, longest := dice(4), 0
	for range 150 {
		w := begunOn(t, spans, d.module())
		for e, _ := w.End(); e == api.EndNone; e, _ = w.End() {
			done, steps := w.Heap().Cycle().Done(), 0
			for w.Collect() && w.Heap().Cycle().Done() == done {
				if steps++; steps > bound {
					t.Fatalf("it is not done behind %d Collects", steps)
				}
				for range d.below(12) {
					if ids := w.Enabled(); len(ids) > 0 {
						id := ids[d.below(len(ids))]
						w.Do(id, d.below(w.Ways(id)))
					}
				}
			}
			longest = max(longest, steps)
			if w.Heap().Cycle().Done() > 25 {
				break
			}
		}
	}
	if longest < 20 {
		t.Errorf("the longest collection had %d steps", longest)
	}
}

// P17.4: likewise where much is made, and goroutines come and go, at each step.
func TestCollectIsBoundedBySpawners(t *testing.T) {
	const spans = 12
	bound := 2*api.MaxGos + 32*spans + spans + 8
	// Main begins goroutines on and on; each makes a few objects, hands one on, and is gone.
	w := begunOn(t, spans, module(nil,
		begins("na", poll(), in(op.New, 1, pair), in(op.Load, 1, globalRef), in(op.Go, 1, 1), jump(0)),
		fn(1, 0, 0, "aaan", in(op.New, 1, pair), in(op.New, 2, pair), in(op.Set, 1, 1, 2), in(op.Set, 2, 1, 0), in(op.Store, globalRef, 2), in(op.Nil, 1), in(op.Store, globalRef, 1), end())))
	d := dice(5)
	for range 40 {
		done, steps := w.Heap().Cycle().Done(), 0
		for w.Heap().Cycle().Done() == done {
			if !w.Collect() {
				t.Fatalf("it has ended: %s", w.told())
			}
			if steps++; steps > bound {
				t.Fatalf("it is not done behind %d Collects", steps)
			}
			for range 8 {
				ids := w.Enabled()
				id := ids[d.below(len(ids))]
				if len(ids) > 20 {
					id = ids[1+d.below(len(ids)-1)]
				}
				w.Do(id, 0)
				w.wantSound("among spawners")
			}
		}
	}
}

// P17.4, T3: the list of chapter 17's own sort: one grows and is let go, with the collector between, on the least heap; the machine is Sound all the way.
func TestSoundAllTheWay(t *testing.T) {
	list := []code.Instr{
		num(1, 1), num(2, 9), poll(),
		in(op.New, 5, pair), in(op.Set, 5, 1, 4), in(op.Set, 5, 0, 0), in(op.Move, 4, 5), in(op.Add, 0, 0, 1), in(op.Mod, 3, 0, 2), in(op.If, 3, 2),
		in(op.Store, globalRef, 4), poll(), in(op.Get, 3, 4, 0), show(3), in(op.Get, 4, 4, 1), in(op.Nil, 5), in(op.Same, 3, 4, 5), in(op.Not, 3, 3), in(op.If, 3, 11), jump(2),
	}
	for gc := range 6 {
		w := begunOn(t, 8, module(nil, fn(0, 0, 0, "nnnnaa", list...)))
		for range 3000 {
			w.do(1)
			for range gc {
				w.Collect()
				w.wantSound("behind Collect")
			}
		}
		for n, v := range w.Out() {
			if want := int64(n/9*9 + 8 - n%9); v != want {
				t.Fatalf("%d steps of the collector: number %d is %d, want %d", gc, n, v, want)
			}
		}
		if len(w.Out()) < 100 || gc > 0 && w.Heap().Cycle().Done() < 5 {
			t.Errorf("%d steps of the collector: %d out, %d done", gc, len(w.Out()), w.Heap().Cycle().Done())
		}
	}
}
