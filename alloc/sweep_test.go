package alloc_test

import (
	"fmt"
	"math"
	"strings"
	"testing"

	"gantline/alloc"
	"gantline/api"
	"gantline/arena"
	"gantline/geom"
)

// made makes an arena, and what finds places in it.
func made(t *testing.T, spans int) (*alloc.Alloc, *arena.Arena) {
	t.Helper()
	a, e := arena.New(spans)
	if e != api.OK {
		t.Fatalf("arena's New(%d): %d", spans, e)
	}
	l := alloc.New(a)
	if l == nil {
		t.Fatalf("New: nil")
	}
	return l, a
}

// fill gives a span of the arena a class, and takes so many of its places, of which the first are marked.
func fill(t *testing.T, a *arena.Arena, span, class, taken, marked int) {
	t.Helper()
	if e := a.Set(span, class); e != api.OK {
		t.Fatalf("arena's Set(%d, %d): %d", span, class, e)
	}
	for k := range taken {
		addr, e := a.Take(span)
		if e != api.OK {
			t.Fatalf("arena's Take(%d): %d", span, e)
		}
		if k < marked {
			a.Mark(addr)
		}
	}
}

// wantUnswept wants these spans to be unswept, and no others.
func wantUnswept(t *testing.T, l *alloc.Alloc, spans ...int) {
	t.Helper()
	got := []int{}
	for n := -2; n <= 514; n++ {
		if l.Unswept(n) {
			got = append(got, n)
		}
	}
	if fmt.Sprint(got) != fmt.Sprint(append([]int{}, spans...)) {
		t.Errorf("unswept: %v, want %v", got, spans)
	}
	if n := l.Left(); n != len(spans) {
		t.Errorf("Left(): %d, want %d", n, len(spans))
	}
}

// wantSpan wants a span of the arena to be so.
func wantSpan(t *testing.T, a *arena.Arena, span, class int, taken uint64) {
	t.Helper()
	if c, x := a.Class(span), a.Taken(span); c != class || x != taken {
		t.Errorf("span %d: class %d, taken %b, want %d, %b", span, c, x, class, taken)
	}
}

// picture tells all that can be asked of both.
func picture(l *alloc.Alloc, a *arena.Arena) string {
	var s strings.Builder
	fmt.Fprintln(&s, a.Spans(), l.Left(), l.Used())
	for n := -1; n <= a.Spans(); n++ {
		class := a.Class(n)
		fmt.Fprintln(&s, n, class, a.Taken(n), a.Marked(n), l.Unswept(n))
		for k := range geom.Places(class) {
			for at := range geom.Words(class) {
				v, e := a.Read(geom.Addr(n, k, class), at)
				fmt.Fprint(&s, v, " ", e, " ")
			}
		}
	}
	return s.String()
}

// P5.1: none is unswept, and the arena stays as it is.
func TestNew(t *testing.T) {
	for _, spans := range []int{8, 9, 511, 512} {
		l, a := made(t, spans)
		wantUnswept(t, l)
		if l.SweepOne() {
			t.Errorf("SweepOne of a new one: true")
		}
		for n := range spans {
			wantSpan(t, a, n, -1, 0)
		}
	}
}

// P5.1: also over an arena that is in use.
func TestNewOfOneInUse(t *testing.T) {
	_, a := made(t, 8)
	for span := 1; span < 8; span++ {
		fill(t, a, span, span%6, geom.Places(span%6), 1)
	}
	before := picture(alloc.New(a), a)
	l := alloc.New(a)
	wantUnswept(t, l)
	if l.SweepOne() {
		t.Errorf("SweepOne of a new one: true")
	}
	if picture(l, a) != before {
		t.Errorf("New: the arena has changed")
	}
}

// P5.1: what is done to the arena directly is seen, and what Alloc does is done to it.
func TestArenaIsShared(t *testing.T) {
	l, a := made(t, 8)
	fill(t, a, 3, 0, 2, 0)
	if n := l.Used(); n != 4 {
		t.Errorf("Used(): %d", n)
	}
	l.Stale()
	wantUnswept(t, l, 3)
	a.Mark(194)
	l.SweepOne()
	wantSpan(t, a, 3, 0, 2)
	if addr, e := l.Take(2); addr != 192 || e != api.OK {
		t.Errorf("Take(2): %d, %d", addr, e)
	}
	if !a.Is(192) {
		t.Errorf("what was taken is not taken in the arena")
	}
	if e := a.Write(192, 1, 5); e != api.OK {
		t.Errorf("arena's Write: %d", e)
	}
	a.Clear()
	a.Sweep(3)
	if n := l.Used(); n != 0 {
		t.Errorf("Used() behind arena's Sweep: %d", n)
	}
}

// P5.1: two over one arena each know for themselves what is unswept.
func TestTwoOfOneArena(t *testing.T) {
	l, a := made(t, 8)
	m := alloc.New(a)
	fill(t, a, 1, 0, 2, 1)
	l.Stale()
	wantUnswept(t, l, 1)
	wantUnswept(t, m)
	m.Stale()
	l.SweepOne()
	wantUnswept(t, l)
	wantUnswept(t, m, 1)
	if addr, _ := l.Take(1); addr != 66 || m.Used() != 4 {
		t.Errorf("Take(1): %d, Used() of the other one: %d", addr, m.Used())
	}
}

// P5.1: no span has a class.
func TestStaleOfNone(t *testing.T) {
	for _, spans := range []int{8, 512} {
		l, _ := made(t, spans)
		l.Stale()
		wantUnswept(t, l)
		if l.SweepOne() {
			t.Errorf("SweepOne with none unswept: true")
		}
		wantUnswept(t, l)
	}
}

// P5.1: all spans have a class.
func TestStaleOfAll(t *testing.T) {
	for _, spans := range []int{8, 9, 512} {
		l, a := made(t, spans)
		var all []int
		for span := 1; span < spans; span++ {
			fill(t, a, span, span%6, 1, 0)
			all = append(all, span)
		}
		l.Stale()
		wantUnswept(t, l, all...)
		for span := 1; span < spans; span++ {
			wantSpan(t, a, span, span%6, 1)
		}
		l.Stale()
		wantUnswept(t, l, all...)
		for n := range all {
			if !l.SweepOne() {
				t.Fatalf("SweepOne number %d: false", n)
			}
			wantUnswept(t, l, all[n+1:]...)
			wantSpan(t, a, all[n], -1, 0)
		}
		if l.SweepOne() {
			t.Errorf("SweepOne with none unswept: true")
		}
	}
}

// P5.1: those that have a class, be their places taken or not; no marks are changed.
func TestStaleOfSome(t *testing.T) {
	l, a := made(t, 9)
	fill(t, a, 1, 0, 32, 32)
	fill(t, a, 4, 3, 0, 0)
	fill(t, a, 6, 5, 1, 0)
	fill(t, a, 8, 2, 5, 3)
	l.Stale()
	wantUnswept(t, l, 1, 4, 6, 8)
	for span, want := range map[int]uint64{1: 1<<32 - 1, 4: 0, 6: 0, 8: 7} {
		if got := a.Marked(span); got != want {
			t.Errorf("Marked(%d): %b", span, got)
		}
	}
	// One that gets its class later is not meant.
	fill(t, a, 2, 1, 1, 0)
	wantUnswept(t, l, 1, 4, 6, 8)
	l.Stale()
	wantUnswept(t, l, 1, 2, 4, 6, 8)
}

// P5.1: in the spans' order, each as arena's Sweep has it, the others as they are.
func TestSweepOne(t *testing.T) {
	l, a := made(t, 9)
	fill(t, a, 8, 2, 5, 3)
	fill(t, a, 6, 5, 1, 0)
	fill(t, a, 4, 3, 0, 0)
	fill(t, a, 1, 0, 32, 32)
	l.Stale()
	want := []struct {
		span, class int
		taken       uint64
	}{{1, 0, 1<<32 - 1}, {4, -1, 0}, {6, -1, 0}, {8, 2, 7}}
	for n, c := range want {
		if !l.SweepOne() {
			t.Fatalf("SweepOne number %d: false", n)
		}
		wantSpan(t, a, c.span, c.class, c.taken)
		if n < 3 {
			wantSpan(t, a, 8, 2, 31)
		}
		if n < 2 {
			wantSpan(t, a, 6, 5, 1)
		}
		wantUnswept(t, l, []int{1, 4, 6, 8}[n+1:]...)
	}
	before := picture(l, a)
	for range 3 {
		if l.SweepOne() {
			t.Errorf("SweepOne with none unswept: true")
		}
		if picture(l, a) != before {
			t.Errorf("SweepOne with none unswept has changed something")
		}
	}
}

// P5.1: a span that was swept is unswept anew behind the next Stale, if it has a class still.
func TestUnsweptAnew(t *testing.T) {
	l, a := made(t, 8)
	fill(t, a, 1, 0, 2, 0)
	fill(t, a, 2, 0, 2, 1)
	fill(t, a, 7, 0, 2, 2)
	l.Stale()
	l.SweepOne()
	l.SweepOne()
	wantUnswept(t, l, 7)
	l.Stale()
	wantUnswept(t, l, 2, 7)
	a.Clear()
	l.SweepOne()
	wantUnswept(t, l, 7)
	wantSpan(t, a, 2, -1, 0)
	l.SweepOne()
	wantUnswept(t, l)
	l.Stale()
	wantUnswept(t, l)
	fill(t, a, 2, 5, 1, 0)
	l.Stale()
	wantUnswept(t, l, 2)
}

// P5.1: whoever sweeps the arena himself does not tell Alloc: the span is unswept until Alloc has swept it.
func TestSweptInTheArena(t *testing.T) {
	l, a := made(t, 8)
	fill(t, a, 1, 0, 2, 1)
	fill(t, a, 3, 5, 1, 0)
	l.Stale()
	a.Sweep(1)
	a.Sweep(3)
	wantSpan(t, a, 3, -1, 0)
	wantUnswept(t, l, 1, 3)
	l.Stale()
	wantUnswept(t, l, 1, 3)
	for range 2 {
		if !l.SweepOne() {
			t.Errorf("SweepOne: false")
		}
	}
	wantUnswept(t, l)
	wantSpan(t, a, 1, 0, 1)
	wantSpan(t, a, 3, -1, 0)
	if l.SweepOne() {
		t.Errorf("SweepOne with none unswept: true")
	}
}

// P5.1: spans that there are, and numbers that are none.
func TestUnsweptEdges(t *testing.T) {
	for _, spans := range []int{8, 512} {
		l, a := made(t, spans)
		asked := []int{math.MinInt, -1 << 32, -1, 0, 1, 2, spans - 1, spans, spans + 1, 1 << 32, 1<<32 + 1, math.MaxInt}
		for _, n := range asked {
			if l.Unswept(n) {
				t.Errorf("Unswept(%d) of a new one: true", n)
			}
		}
		fill(t, a, 1, 0, 1, 0)
		fill(t, a, spans-1, 0, 1, 0)
		l.Stale()
		for _, n := range asked {
			if want := n == 1 || n == spans-1; l.Unswept(n) != want {
				t.Errorf("Unswept(%d): %v", n, !want)
			}
		}
	}
}
