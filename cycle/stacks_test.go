package cycle_test

import (
	"slices"
	"testing"
)

// P8.1: of a stack that is one of r's, in each phase.
func TestScanInEachPhase(t *testing.T) {
	for phase := range 4 {
		w := in(t, phase)
		first, second := w.leaders(3)
		w.c.Arena().Clear()
		w.h.comes(5, first...)
		if phase == off || phase == sweeping {
			w.wantSame("Scan", func() { w.wantScan(5, false, false) })
			continue
		}
		w.wantScan(5, true, true)
		w.wantMarked(first...)
		w.wantBlack(5)
		w.wantGrey(first, second)
	}
}

// P8.1: what a stack holds is shaded in the order in which it is told.
func TestScanShadesInOrder(t *testing.T) {
	for _, phase := range []int{roots, marking} {
		for _, order := range [][]int{{0, 1, 2, 3}, {3, 2, 1, 0}, {2, 0, 3, 1}} {
			w := begun(t)
			first, second := w.leaders(4)
			w.to(phase)
			var f, s []int64
			for _, n := range order {
				f, s = append(f, first[n]), append(s, second[n])
			}
			w.h.comes(2, f...)
			w.wantScan(2, true, true)
			w.wantGrey(f, s)
		}
	}
}

// P8.1: it is behind what is grey already.
func TestScanBehindOthers(t *testing.T) {
	w := begun(t)
	first, second := w.leaders(4)
	w.h.globals = first[2:3]
	w.h.comes(8, first[0])
	w.h.comes(6, first[3], first[1])
	w.to(roots)
	w.wantScan(8, true, true)
	w.wantScan(6, true, true)
	w.wantBlack(6, 8)
	w.wantGrey([]int64{first[2], first[0], first[3], first[1]}, []int64{second[2], second[0], second[3], second[1]})
}

// P8.1: of a number that is none of r's, though r would tell what it holds.
func TestScanOfNone(t *testing.T) {
	for phase := range 4 {
		w := in(t, phase)
		r := &generous{stacks: []int{4, 2}, held: []int64{w.link()}}
		w.c.Arena().Clear()
		w.wantSame("Scan", func() {
			for _, id := range numbers() {
				if id != 4 && id != 2 && w.c.Scan(r, id) {
					t.Errorf("Scan(%d) in phase %d", id, phase)
				}
			}
		})
		if shades := phase == roots || phase == marking; w.c.Scan(r, 2) != shades || w.c.Black(2) != shades {
			t.Errorf("Scan(2) in phase %d", phase)
		}
	}
}

// generous tells addresses for any number.
type generous struct {
	stacks []int
	held   []int64
}

func (g *generous) Globals() []int64     { return nil }
func (g *generous) Stacks() []int        { return g.stacks }
func (g *generous) Stack(id int) []int64 { return g.held }

// P8.1: of one that is black, whatever it holds by now.
func TestScanOfBlack(t *testing.T) {
	for _, phase := range []int{roots, marking} {
		w := in(t, phase)
		addr := w.link()
		w.c.Arena().Clear()
		w.h.comes(5)
		w.h.comes(6)
		w.wantScan(5, true, true)
		w.c.Born(6)
		w.h.stacks[0].held = []int64{addr}
		w.h.stacks[1].held = []int64{addr}
		w.wantSame("Scan of a black one", func() {
			w.wantScan(5, false, true)
			w.wantScan(6, false, true)
		})
		w.wantMarked()
	}
}

// P8.1: of one that holds nothing.
func TestScanOfEmpty(t *testing.T) {
	for _, phase := range []int{roots, marking} {
		w := in(t, phase)
		w.h.comes(0)
		w.wantScan(0, true, true)
		w.wantLeft(0)
		w.wantMarked()
		w.wantBlack(0)
	}
}

// P8.1: of one that holds what is no place, what is marked already, and one thing twice.
func TestScanOverWrongAddresses(t *testing.T) {
	for _, phase := range []int{roots, marking} {
		w := begun(t)
		first, second := w.leaders(2)
		w.to(phase)
		w.h.comes(1, slices.Concat(nowhere(), []int64{first[1], first[1] + 1, first[0], first[1], 0}, nowhere(), first)...)
		w.wantScan(1, true, true)
		w.wantMarked(first...)
		w.wantGrey([]int64{first[1], first[0]}, []int64{second[1], second[0]})
		w.h.comes(2, nowhere()...)
		w.h.comes(3, append(first, second...)...)
		w.wantScan(2, true, true)
		w.wantScan(3, true, true)
		w.wantLeft(2)
		w.wantBlack(1, 2, 3)
	}
}

// P8.1: any number is a stack's, if r has it.
func TestScanOfAnyNumber(t *testing.T) {
	w := begun(t)
	for _, id := range numbers() {
		w.h.comes(id)
	}
	w.to(roots)
	var black []int
	for _, id := range numbers() {
		w.wantScan(id, true, true)
		black = append(black, id)
		w.wantBlack(black...)
	}
}

// P8.1: in roots and mark a new stack is black; else nothing changes.
func TestBornInEachPhase(t *testing.T) {
	for phase := range 4 {
		w := in(t, phase)
		if phase == off || phase == sweeping {
			w.wantSame("Born", func() {
				w.c.Born(3)
				w.c.Born(3)
			})
			continue
		}
		w.c.Born(3)
		w.wantBlack(3)
		w.wantSame("Born twice", func() { w.c.Born(3) })
		w.c.Born(-7)
		w.wantBlack(3, -7)
		w.wantPhase(phase)
		w.wantLeft(0)
		w.wantMarked()
	}
}

// P8.1: a stack that was born is not looked at: whoever made it has shaded what it holds.
func TestBornIsNotScanned(t *testing.T) {
	w := begun(t)
	addr := w.link()
	w.to(roots)
	w.c.Born(4)
	w.h.comes(4, addr)
	w.wantScan(4, false, true)
	w.wantStep(marking)
	w.wantStep(sweeping)
	w.wantMarked()
}

// P8.1: one that was born while it was off, or swept, is looked at in the next collection like any other.
func TestBornUnseen(t *testing.T) {
	for _, phase := range []int{off, sweeping} {
		w := in(t, phase)
		addr := w.link()
		w.c.Born(4)
		w.h.comes(4, addr)
		w.wantBlack()
		w.to(off)
		w.wantStart(true, roots)
		w.wantBlack()
		w.wantStep(roots)
		w.wantBlack(4)
		w.wantMarked(addr)
	}
}

// P8.1: a stack that was scanned or born and dies is black no more; one more death changes nothing.
func TestDiesInEachPhase(t *testing.T) {
	for phase := range 4 {
		w := begun(t)
		w.h.comes(3, w.link())
		w.to(roots)
		w.c.Born(8)
		w.c.Born(9)
		w.wantScan(3, true, true)
		w.to(phase)
		w.wantBlack(3, 8, 9)
		left := w.c.Marker().Left()
		w.c.Dies(8)
		w.wantBlack(3, 9)
		w.wantSame("Dies twice", func() { w.c.Dies(8) })
		w.c.Dies(3)
		w.wantBlack(9)
		w.wantPhase(phase)
		w.wantLeft(left)
		w.wantMarked(w.h.stacks[0].held...)
	}
}

// P8.1: a number that never was a stack's.
func TestDiesOfNone(t *testing.T) {
	for phase := range 4 {
		w := in(t, phase)
		w.h.comes(5)
		w.c.Born(6)
		w.wantSame("Dies", func() {
			for _, id := range numbers() {
				if id != 6 {
					w.c.Dies(id)
				}
			}
		})
	}
}

// P8.1: a stack that died is another one, when it is born again or comes unseen.
func TestDiesAndComesAgain(t *testing.T) {
	for _, phase := range []int{roots, marking} {
		w := in(t, phase)
		addr := w.link()
		w.c.Arena().Clear()
		w.c.Born(3)
		w.c.Dies(3)
		w.wantBlack()
		w.c.Born(3)
		w.wantBlack(3)
		w.c.Dies(3)
		w.h.comes(3, addr)
		w.wantMarked()
		w.wantScan(3, true, true)
		w.wantMarked(addr)
		w.c.Dies(3)
		w.wantScan(3, true, true)
		w.wantLeft(1)
	}
}

// P8.1: while it is swept, a stack is black as it was, and none becomes so.
func TestBlackInSweep(t *testing.T) {
	w := in(t, roots)
	w.h.comes(2)
	w.to(sweeping)
	w.wantBlack(2)
	w.h.comes(3)
	w.wantScan(3, false, false)
	w.wantScan(2, false, true)
	w.c.Born(3)
	w.c.Born(4)
	w.wantBlack(2)
	w.c.Dies(2)
	w.wantScan(2, false, false)
	w.wantBlack()
}

// P8.1: asking who is black changes nothing.
func TestBlackChangesNothing(t *testing.T) {
	for phase := range 4 {
		w := in(t, phase)
		w.wantSame("Black", func() {
			for range 3 {
				w.wantBlack()
			}
		})
	}
}
