package cycle_test

import (
	"math"
	"testing"
)

// P8.2
func TestStepOff(t *testing.T) {
	w := begun(t)
	w.h.globals = []int64{w.link()}
	w.h.comes(1, w.link())
	for range 2 {
		w.wantSame("Step", func() {
			for range 3 {
				if w.c.Step(w.h) {
					t.Errorf("Step(), off: true")
				}
			}
		})
		w.whole()
	}
}

// P8.2: with no stack the phase is mark at once, whether anything is grey or not.
func TestStepRootsOfNoStack(t *testing.T) {
	for n := range 3 {
		w := begun(t)
		for range n {
			w.h.globals = append(w.h.globals, w.link(w.link()))
		}
		w.to(roots)
		w.wantStep(marking)
		w.wantLeft(n)
		w.wantMarked(w.h.globals...)
		w.wantBlack()
	}
}

// P8.2: one stack a step, the least that is not black, whatever order they are told in.
func TestStepRootsLeastFirst(t *testing.T) {
	rising := []int{math.MinInt, -7, -1, 0, 3, 4, 10, 1 << 32, math.MaxInt}
	for _, order := range [][]int{
		{0, 1, 2, 3, 4, 5, 6, 7, 8},
		{8, 7, 6, 5, 4, 3, 2, 1, 0},
		{4, 8, 0, 5, 3, 7, 1, 6, 2},
		{3, 0, 6, 1, 8, 2, 4, 7, 5},
	} {
		w := begun(t)
		first, second := w.leaders(len(rising))
		for _, n := range order {
			w.h.comes(rising[n], first[n])
		}
		w.to(roots)
		for n := range rising {
			w.wantStep(roots)
			w.wantBlack(rising[:n+1]...)
			w.wantMarked(first[:n+1]...)
		}
		w.wantGrey(first, second)
		w.wantStep(marking)
	}
}

// P8.2: those that Scan or Born made black are left out; one that is told twice is looked at once.
func TestStepRootsOverBlack(t *testing.T) {
	w := begun(t)
	for _, id := range []int{5, 2, 9, 7, 2, 4} {
		w.h.comes(id, w.link())
	}
	w.to(roots)
	w.c.Born(2)
	w.wantScan(7, true, true)
	w.wantStep(roots)
	w.wantBlack(2, 7, 4)
	w.wantStep(roots)
	w.wantBlack(2, 7, 4, 5)
	w.wantStep(roots)
	w.wantBlack(2, 7, 4, 5, 9)
	w.wantLeft(4)
	w.wantStep(marking)
}

// P8.2: stacks that came since, below and above those that were looked at, and one that went.
func TestStepRootsOfNewStacks(t *testing.T) {
	w := begun(t)
	a, b, c := w.link(), w.link(), w.link()
	w.h.comes(5, a)
	w.h.comes(6)
	w.to(roots)
	w.wantStep(roots)
	w.h.comes(3, b)
	w.h.comes(8, c)
	w.wantStep(roots)
	w.wantBlack(5, 3)
	w.h.goes(6)
	w.wantStep(roots)
	w.wantBlack(5, 3, 8)
	w.wantMarked(a, b, c)
	w.wantStep(marking)
}

// P8.2: a stack with no addresses, and one with wrong ones, take a step too.
func TestStepRootsOfEmptyStacks(t *testing.T) {
	w := begun(t)
	w.h.comes(1)
	w.h.comes(2, nowhere()...)
	w.h.comes(3)
	w.to(roots)
	for range 3 {
		w.wantStep(roots)
	}
	w.wantBlack(1, 2, 3)
	w.wantStep(marking)
	w.wantLeft(0)
}

// P8.2: a stack that died and is still told is looked at once more.
func TestStepRootsOfDead(t *testing.T) {
	w := begun(t)
	w.h.comes(1)
	w.h.comes(2)
	w.to(roots)
	w.wantStep(roots)
	w.c.Dies(1)
	w.wantStep(roots)
	w.wantBlack(1)
	w.wantStep(roots)
	w.wantBlack(1, 2)
	w.wantStep(marking)
}

// P8.2: one object a step, the first that is grey.
func TestStepMark(t *testing.T) {
	w := begun(t)
	end := w.link()
	near, far := w.link(end), w.link()
	top, other := w.link(near, far), w.link()
	w.link(top)
	w.h.globals = []int64{top, other}
	w.to(marking)
	for _, want := range []struct {
		left   int
		marked []int64
	}{
		{3, []int64{top, other, near, far}},
		{2, []int64{top, other, near, far}},
		{2, []int64{top, other, near, far, end}},
		{1, []int64{top, other, near, far, end}},
		{0, []int64{top, other, near, far, end}},
	} {
		w.wantStep(marking)
		w.wantLeft(want.left)
		w.wantMarked(want.marked...)
	}
	w.wantStep(sweeping)
	w.wantMarked(top, other, near, far, end)
	w.wantDone(0)
}

// P8.2: while some are grey the stacks are not asked for.
func TestStepMarkGreyFirst(t *testing.T) {
	w := begun(t)
	addr := w.link()
	w.h.globals = []int64{w.link(w.link())}
	w.to(marking)
	w.h.comes(1, addr)
	w.wantStep(marking)
	w.wantStep(marking)
	w.wantBlack()
	w.wantStep(roots)
}

// P8.2: with none grey and a stack that is not black the phase is roots again, and no stack is looked at by that step.
func TestStepMarkBackToRoots(t *testing.T) {
	w := begun(t)
	leaf := w.link()
	addr := w.link(leaf)
	w.h.comes(1)
	w.to(marking)
	w.h.comes(6)
	w.h.comes(4, addr)
	w.wantStep(roots)
	w.wantBlack(1)
	w.wantMarked()
	w.wantStep(roots)
	w.wantBlack(1, 4)
	w.wantStep(roots)
	w.wantBlack(1, 4, 6)
	w.wantStep(marking)
	w.wantStep(marking)
	w.wantStep(marking)
	w.wantMarked(addr, leaf)
	w.wantStep(sweeping)
	w.wantDone(0)
	w.to(off)
	w.wantTaken(addr, leaf)
	w.wantDone(1)
}

// P8.2: many times to and fro; the marks and who is black stay.
func TestStepMarkBackOften(t *testing.T) {
	w := begun(t)
	w.to(marking)
	var kept []int64
	var black []int
	for _, id := range []int{9, 3, 5, 4} {
		kept, black = append(kept, w.link()), append(black, id)
		w.c.Arena().Clear()
		for _, addr := range kept[:len(kept)-1] {
			w.c.Arena().Mark(addr)
		}
		w.h.comes(id, kept[len(kept)-1])
		w.wantStep(roots)
		w.wantStep(roots)
		w.wantBlack(black...)
		w.wantMarked(kept...)
		w.wantStep(marking)
		w.wantStep(marking)
	}
	w.wantStep(sweeping)
}

// P8.2: a stack that was scanned in mark, or born there, does not bring roots back; one that died does, if it is still told.
func TestStepMarkOverBlack(t *testing.T) {
	w := in(t, marking)
	w.h.comes(1, w.link())
	w.h.comes(2)
	w.wantScan(1, true, true)
	w.c.Born(2)
	w.c.Dies(2)
	w.c.Born(2)
	w.wantStep(sweeping)
	v := in(t, marking)
	v.h.comes(2)
	v.c.Born(2)
	v.c.Dies(2)
	v.wantStep(roots)
}

// P8.2: one span a step, the least first; then one step more, and it is done, and only then.
func TestStepSweep(t *testing.T) {
	w := begun(t)
	kept, wide, lost := w.take(2), w.take(64), w.take(4)
	lost2 := w.take(2)
	w.h.globals = []int64{kept}
	w.to(sweeping)
	w.wantTaken(kept, wide, lost, lost2)
	w.wantStep(sweeping)
	w.wantTaken(kept, wide, lost)
	w.wantDone(0)
	w.wantStep(sweeping)
	w.wantTaken(kept, lost)
	w.wantDone(0)
	w.wantStep(sweeping)
	w.wantTaken(kept)
	w.wantDone(0)
	w.wantStep(off)
	w.wantTaken(kept)
	w.wantDone(1)
	w.wantSame("Step", func() { w.c.Step(w.h) })
}

// P8.2: of a heap with nothing in it, and of a full one.
func TestStepSweepEdges(t *testing.T) {
	w := begun(t)
	w.to(sweeping)
	w.wantDone(0)
	w.wantStep(off)
	w.wantDone(1)
	for range 15 {
		w.h.globals = append(w.h.globals, w.take(64))
	}
	w.to(sweeping)
	for range 15 {
		w.wantStep(sweeping)
	}
	w.wantDone(1)
	w.wantStep(off)
	w.wantDone(2)
	w.wantTaken(w.h.globals...)
	w.h.globals = nil
	w.to(sweeping)
	for range 15 {
		w.wantStep(sweeping)
	}
	w.wantStep(off)
	w.wantTaken()
	w.wantDone(3)
}

// P8.2: spans that Take has swept, or given a class, take no step of their own.
func TestStepSweepBehindTake(t *testing.T) {
	w := begun(t)
	w.take(2)
	w.take(64)
	w.take(4)
	w.to(sweeping)
	four := w.take(4)
	wide := w.take(64)
	w.wantStep(sweeping)
	w.wantTaken(four, wide)
	w.wantStep(off)
	w.wantTaken(four, wide)
}

// P8.2: a stack that comes while it is swept changes nothing.
func TestStepSweepOverStacks(t *testing.T) {
	w := in(t, sweeping)
	addr := w.link()
	w.h.comes(3, addr)
	w.h.globals = []int64{addr}
	w.wantStep(sweeping)
	w.wantStep(off)
	w.wantBlack()
	w.wantMarked()
	w.wantTaken(addr)
}

// P8.2: Done grows by one each time, by nothing else.
func TestDone(t *testing.T) {
	w := begun(t)
	for n := range 50 {
		w.wantDone(n)
		w.h.comes(n, w.link())
		w.wantStart(true, roots)
		for phase := w.c.Phase(); phase != off; phase = w.c.Phase() {
			w.wantDone(n)
			if !w.c.Step(w.h) {
				t.Fatalf("Step(): false in phase %d", phase)
			}
		}
	}
	w.wantDone(50)
}
