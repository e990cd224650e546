package cycle_test

import (
	"math"
	"slices"
	"testing"

	"gantline/api"
	"gantline/cycle"
	"gantline/head"
)

// The chapter's example.
func TestExample(t *testing.T) {
	w := sized(t, 8)
	w.wantStart(true, 1)
	w.wantStep(2)
	w.wantStep(3)
	w.wantStep(0)
	w.wantDone(1)
}

// P8.1: one past the limits, and far past them.
func TestNewRefuses(t *testing.T) {
	for _, spans := range []int{7, 513, 0, 1, -1, -8, 1 << 32, 1<<32 + 8, math.MinInt, math.MaxInt} {
		if c, e := cycle.New(spans); c != nil || e != api.EARG {
			t.Errorf("New(%d): %v, %d", spans, c, e)
		}
	}
}

// P8.1: at the limits, and between them.
func TestNew(t *testing.T) {
	for _, spans := range []int{8, 9, 100, 511, 512} {
		w := sized(t, spans)
		w.wantPhase(off)
		w.wantDone(0)
		w.wantLeft(0)
		w.wantWants(false)
		w.wantBlack()
		w.wantTaken()
		w.wantMarked()
		if n := w.c.Arena().Spans(); n != spans {
			t.Errorf("New(%d): %d spans", spans, n)
		}
		if n := w.c.Table().Len(); n != 0 {
			t.Errorf("New(%d): %d shapes", spans, n)
		}
		for span := 1; span < spans; span++ {
			if addr := w.take(64); addr != int64(64*span) {
				t.Errorf("New(%d): Take(64): %d", spans, addr)
			}
		}
		if addr, e := w.c.Take(1); addr != 0 || e != api.EFULL {
			t.Errorf("New(%d): Take(1) of a full one: %d, %d", spans, addr, e)
		}
	}
}

// P8.1: whatever one does, the other is as it was.
func TestTwoHeaps(t *testing.T) {
	one, two := begun(t), begun(t)
	leaf := two.link()
	two.h.globals = []int64{two.link(leaf)}
	two.h.comes(2, leaf)
	two.to(roots)
	two.c.Scan(two.h, 2)
	two.wantSame("another heap", func() {
		for range 3 {
			one.h.globals = append(one.h.globals, one.thing(head.Shape{Kind: 1, Map: 1}, 0, 0, 0, 0, 0, 0, 0, 0, 0))
			one.h.comes(7, one.link())
			one.c.Born(2)
			one.c.Dies(2)
			one.c.Barrier(leaf, leaf, 1)
			one.whole()
			one.c.Whole(one.h)
			one.to(roots)
			one.to(sweeping)
			one.c.Whole(one.h)
		}
	})
	one.wantDone(12)
	two.wantDone(0)
	one.wantSame("another heap", func() { two.c.Whole(two.h) })
}

// P8.1: Arena, Table and Marker are the heap's own, and the same each time.
func TestParts(t *testing.T) {
	w, other := begun(t), begun(t)
	a, table, m := w.c.Arena(), w.c.Table(), w.c.Marker()
	if a == other.c.Arena() || table == other.c.Table() || m == other.c.Marker() {
		t.Errorf("two heaps have one part")
	}
	w.h.globals = []int64{w.link(w.link())}
	w.link()
	for _, phase := range []int{off, roots, marking, sweeping, off, roots, off} {
		w.to(phase)
		if w.c.Arena() != a || w.c.Table() != table || w.c.Marker() != m {
			t.Errorf("other parts in phase %d", phase)
		}
	}
}

// P8.1: what one of them is told the others know.
func TestPartsAreJoined(t *testing.T) {
	w := begun(t)
	leaf := w.take(4)
	addr := w.take(4)
	if !w.c.Arena().Is(leaf) || !w.c.Arena().Is(addr) {
		t.Fatalf("what was taken is not the arena's")
	}
	w.c.Table().Number(head.Shape{})
	number, _ := w.c.Table().Number(head.Shape{Fields: 3, Map: 4})
	word, _ := head.Pack(head.Head{Words: 4, Shape: number})
	w.write(addr, 0, word)
	w.write(addr, 3, leaf)
	if got := w.c.Marker().Fields(addr); !slices.Equal(got, []int64{leaf}) {
		t.Errorf("Fields(%d): %v", addr, got)
	}
	w.to(marking)
	w.c.Marker().Shade(addr)
	w.wantMarked(addr)
	w.wantStep(marking)
	w.wantMarked(addr, leaf)
	w.wantStep(marking)
	w.wantStep(sweeping)
}

// P8.1: in each phase but off Start is refused, and changes nothing.
func TestStartInEachPhase(t *testing.T) {
	for _, phase := range []int{roots, marking, sweeping} {
		w := in(t, phase)
		w.h.globals = []int64{w.link()}
		w.h.comes(3, w.link())
		w.c.Born(4)
		w.wantSame("Start", func() {
			w.wantStart(false, phase)
			w.wantStart(false, phase)
		})
		w.to(off)
		w.wantStart(true, roots)
		w.wantMarked(w.h.globals...)
		w.wantBlack()
	}
}

// P8.1: with no globals, and with stacks, which are not looked at yet.
func TestStartOfStacksAlone(t *testing.T) {
	w := begun(t)
	w.h.comes(1, w.link())
	w.h.comes(2)
	w.wantStart(true, roots)
	w.wantLeft(0)
	w.wantMarked()
	w.wantBlack()
	w.wantDone(0)
}

// P8.1: marks that an earlier collection left, and others.
func TestStartClearsMarks(t *testing.T) {
	w := begun(t)
	kept, lost, wide := w.link(), w.link(), w.take(64)
	w.h.globals = []int64{kept, lost, wide}
	w.whole()
	w.wantMarked(kept, lost, wide)
	w.wantTaken(kept, lost, wide)
	stray := w.take(2)
	w.c.Arena().Mark(stray)
	w.h.globals = nil
	w.h.comes(1, kept)
	w.wantStart(true, roots)
	w.wantMarked()
	w.wantTaken(kept, lost, wide, stray)
	w.wantLeft(0)
	w.to(off)
	w.wantTaken(kept)
}

// P8.1: the globals are shaded in the order in which they are told.
func TestStartShadesInOrder(t *testing.T) {
	for _, order := range [][]int{{0, 1, 2, 3}, {3, 2, 1, 0}, {2, 0, 3, 1}} {
		w := begun(t)
		first, second := w.leaders(4)
		var f, s []int64
		for _, n := range order {
			f, s = append(f, first[n]), append(s, second[n])
		}
		w.h.globals = f
		w.wantStart(true, roots)
		w.wantMarked(first...)
		w.wantGrey(f, s)
	}
}

// P8.1: globals that are told twice, that are 0, or no places.
func TestStartOverWrongGlobals(t *testing.T) {
	w := begun(t)
	first, second := w.leaders(2)
	gone := w.take(64)
	w.h.globals = first
	w.whole()
	w.wantTaken(append(first, second...)...)
	w.h.globals = slices.Concat(nowhere(), []int64{first[1], gone, first[1] + 1, first[0], first[1], 0, first[0]}, nowhere())
	w.wantStart(true, roots)
	w.wantMarked(first...)
	w.wantGrey([]int64{first[1], first[0]}, []int64{second[1], second[0]})
}

// P8.1: stacks that an earlier collection made black are so no more.
func TestStartMakesNoneBlack(t *testing.T) {
	w := begun(t)
	ids := numbers()
	for _, id := range ids {
		w.h.comes(id)
	}
	w.to(roots)
	w.c.Born(3)
	w.to(marking)
	w.wantBlack(ids...)
	w.to(off)
	w.wantStart(true, roots)
	w.wantBlack()
	w.wantScan(3, true, true)
	w.wantBlack(3)
}

// P8.1, R4: the lists that are handed in are not changed, their spare room neither, and not kept.
func TestListsAreLeftAlone(t *testing.T) {
	w := begun(t)
	var globals, held []int64
	for range 4 {
		globals, held = append(globals, w.link()), append(held, w.link(w.link()))
	}
	slices.Reverse(held)
	r := &lists{globals: append(globals, 77, 78), stacks: []int{9, 3, 12, 3, 5, 77, 78}, held: append(held, 77, 78)}
	before := &lists{slices.Clone(r.globals), slices.Clone(r.stacks), slices.Clone(r.held)}
	same := func() {
		t.Helper()
		if !slices.Equal(r.globals, before.globals) || !slices.Equal(r.stacks, before.stacks) || !slices.Equal(r.held, before.held) {
			t.Fatalf("a list is changed in phase %d", w.c.Phase())
		}
	}
	w.c.Start(r)
	same()
	w.c.Scan(r, 12)
	same()
	marked := w.places(w.c.Arena().Marked)
	// What was told is told otherwise now: what has been shaded stays so.
	clear(r.globals)
	clear(r.held)
	w.wantMarked(marked...)
	w.wantLeft(8)
	copy(r.globals, before.globals)
	copy(r.held, before.held)
	for w.c.Step(r) {
		same()
	}
	w.c.Whole(r)
	same()
	w.wantDone(2)
}

// lists is one whose lists all have spare room of two.
type lists struct {
	globals []int64
	stacks  []int
	held    []int64
}

func (l *lists) Globals() []int64     { return l.globals[:len(l.globals)-2] }
func (l *lists) Stacks() []int        { return l.stacks[:len(l.stacks)-2] }
func (l *lists) Stack(id int) []int64 { return l.held[:len(l.held)-2] }
