package cycle_test

import (
	"slices"
	"testing"
)

// guarded is a world in a phase, with a stack 1 that is black in roots and mark, and a stack 2 that is not.
func guarded(t *testing.T, phase int) (w *world, first, second []int64) {
	t.Helper()
	w = begun(t)
	first, second = w.leaders(2)
	w.to(phase)
	w.c.Arena().Clear()
	w.c.Born(1)
	w.h.comes(1)
	w.h.comes(2)
	return w, first, second
}

// P8.3: off and in sweep nothing is shaded.
func TestBarrierInNoPhase(t *testing.T) {
	for _, phase := range []int{off, sweeping} {
		w, first, _ := guarded(t, phase)
		w.wantSame("Barrier", func() {
			for _, id := range numbers() {
				w.c.Barrier(first[0], first[1], id)
				w.c.Barrier(0, first[1], id)
				w.c.Barrier(first[0], 0, id)
			}
		})
	}
}

// P8.3: what a stack that is black writes is not shaded, while it is swept neither by one that is not.
func TestBarrierByBlackInSweep(t *testing.T) {
	w := in(t, roots)
	w.h.comes(1)
	w.to(sweeping)
	a, b := w.link(), w.link()
	w.wantBlack(1)
	w.wantSame("Barrier", func() {
		w.c.Barrier(a, b, 1)
		w.c.Barrier(a, b, 2)
	})
}

// P8.3: by a stack that is black: old alone.
func TestBarrierByBlack(t *testing.T) {
	for _, phase := range []int{roots, marking} {
		w, first, second := guarded(t, phase)
		w.c.Barrier(first[0], first[1], 1)
		w.wantMarked(first[0])
		w.wantPhase(phase)
		w.wantBlack(1)
		w.wantGrey(first[:1], second[:1])
	}
}

// P8.3: by one that is not black, or by a number that is no stack's: old, and behind it fresh.
func TestBarrierByOther(t *testing.T) {
	for _, phase := range []int{roots, marking} {
		for _, id := range numbers() {
			if id == 1 {
				continue
			}
			w, first, second := guarded(t, phase)
			w.c.Barrier(first[0], first[1], id)
			w.wantMarked(first...)
			w.wantPhase(phase)
			w.wantBlack(1)
			w.wantGrey(first, second)
			v, first, second := guarded(t, phase)
			v.c.Barrier(first[1], first[0], id)
			v.wantGrey([]int64{first[1], first[0]}, []int64{second[1], second[0]})
		}
	}
}

// P8.3: a stack that was scanned is black, one that died is not.
func TestBarrierByScannedAndDead(t *testing.T) {
	for _, phase := range []int{roots, marking} {
		w, first, _ := guarded(t, phase)
		w.wantScan(2, true, true)
		w.c.Barrier(0, first[0], 2)
		w.wantMarked()
		w.c.Dies(2)
		w.c.Barrier(0, first[0], 2)
		w.wantMarked(first[0])
		w.wantLeft(1)
	}
}

// P8.3: old or fresh is 0, or both are.
func TestBarrierOfNothing(t *testing.T) {
	for _, phase := range []int{roots, marking} {
		for _, id := range []int{1, 2} {
			w, first, _ := guarded(t, phase)
			w.wantSame("Barrier of nothing", func() { w.c.Barrier(0, 0, id) })
			w.c.Barrier(first[0], 0, id)
			w.wantMarked(first[0])
			w.wantLeft(1)
			w.c.Barrier(0, first[1], id)
			if id == 1 {
				w.wantMarked(first[0])
				w.wantLeft(1)
			} else {
				w.wantMarked(first...)
				w.wantLeft(2)
			}
		}
	}
}

// P8.3: old and fresh are the same.
func TestBarrierOfSame(t *testing.T) {
	for _, phase := range []int{roots, marking} {
		for _, id := range []int{1, 2} {
			w, first, second := guarded(t, phase)
			w.c.Barrier(first[1], first[1], id)
			w.wantMarked(first[1])
			w.wantGrey(first[1:], second[1:])
		}
	}
}

// P8.3: old or fresh is marked already: it is not grey once more, and the other one is shaded.
func TestBarrierOfMarked(t *testing.T) {
	for _, phase := range []int{roots, marking} {
		w, first, second := guarded(t, phase)
		w.c.Arena().Mark(first[0])
		w.c.Arena().Mark(second[1])
		for _, id := range []int{1, 2} {
			w.wantSame("Barrier of marked", func() {
				w.c.Barrier(first[0], second[1], id)
				w.c.Barrier(second[1], first[0], id)
			})
		}
		w.c.Barrier(first[0], first[1], 2)
		w.c.Barrier(second[0], first[0], 2)
		w.wantMarked(append(first, second...)...)
		w.wantLeft(2)
	}
}

// P8.3: old or fresh is no place at all.
func TestBarrierOfNoPlace(t *testing.T) {
	for phase := range 4 {
		w, first, _ := guarded(t, phase)
		no := append(nowhere(), first[0]+1, first[0]+2, first[0]+3, 15*64)
		for _, id := range []int{1, 2} {
			w.wantSame("Barrier of no place", func() {
				for n, addr := range no {
					w.c.Barrier(addr, no[len(no)-1-n], id)
				}
			})
		}
	}
	for _, phase := range []int{roots, marking} {
		w, first, _ := guarded(t, phase)
		w.c.Barrier(-64, first[0], 2)
		w.c.Barrier(first[1], 1<<40, 2)
		w.wantMarked(first...)
		w.wantLeft(2)
	}
}

// P8.3: what is shaded so is looked at, and kept.
func TestBarrierKeeps(t *testing.T) {
	for _, phase := range []int{roots, marking} {
		w, first, second := guarded(t, phase)
		w.c.Barrier(first[0], first[1], 1)
		w.to(off)
		w.wantTaken(first[0], second[0])
		v, first, second := guarded(t, phase)
		v.c.Barrier(0, first[1], 2)
		v.to(off)
		v.wantTaken(first[1], second[1])
	}
}

// P8.3: many writes in a row are many grey ones, in their order.
func TestBarrierOrder(t *testing.T) {
	w := begun(t)
	first, second := w.leaders(20)
	w.to(roots)
	for n := 0; n < 20; n += 2 {
		w.c.Barrier(first[19-n], first[18-n], n)
	}
	slices.Reverse(first)
	slices.Reverse(second)
	w.wantGrey(first, second)
}
