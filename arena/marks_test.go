package arena_test

import (
	"fmt"
	"math"
	"testing"

	"gantline/api"
	"gantline/arena"
	"gantline/geom"
)

// nowhere are addresses of an arena of 8 spans at which no place that is taken begins, whatever was done.
func nowhere() []int64 {
	return []int64{
		0, 1, 2, 63, -1, -2, -64, 512, 514, 576, 64 * 511, 64 * 512, 64*512 + 2, 1 << 32, 1<<32 + 64, 1 << 40,
		math.MaxInt64, math.MaxInt64 - 63, math.MinInt64, math.MinInt64 + 64,
	}
}

// P4.2: at each address, in spans of each class.
func TestIs(t *testing.T) {
	a := filled(t)
	begins := map[int64]int{}
	for class := range 6 {
		for k := range geom.Places(class) {
			begins[geom.Addr(class+1, k, class)]++
		}
	}
	for addr := int64(-200); addr < 1000; addr++ {
		if want := begins[addr] == 1; a.Is(addr) != want {
			t.Errorf("Is(%d): %v", addr, !want)
		}
	}
	for _, addr := range nowhere() {
		if a.Is(addr) {
			t.Errorf("Is(%d): true", addr)
		}
	}
}

// P4.2: only what is taken.
func TestIsTaken(t *testing.T) {
	a := made(t, 8)
	set(t, a, 2, 2)
	for k := range 8 {
		addr := int64(128 + 8*k)
		if a.Is(addr) {
			t.Errorf("Is(%d) ahead of Take: true", addr)
		}
		take(t, a, 2, 1)
		if !a.Is(addr) {
			t.Errorf("Is(%d) behind Take: false", addr)
		}
		if a.Is(addr+1) || a.Is(addr+4) || a.Is(addr+7) {
			t.Errorf("Is between %d and the next: true", addr)
		}
	}
	a.Mark(144)
	a.Sweep(2)
	for k := range 8 {
		if addr := int64(128 + 8*k); a.Is(addr) != (k == 2) {
			t.Errorf("Is(%d) behind Sweep: %v", addr, a.Is(addr))
		}
	}
}

// P4.2: the maps of a span with no class, and of one that there is not.
func TestMapsOfNone(t *testing.T) {
	a := filled(t)
	for _, span := range []int{-1, 0, 7, 8, 9, 511, 512, math.MaxInt, math.MinInt} {
		wantSpan(t, a, span, -1, 0, 0)
	}
}

// P4.2
func TestMark(t *testing.T) {
	a := made(t, 8)
	for class := range 6 {
		set(t, a, class+1, class)
		take(t, a, class+1, geom.Places(class))
	}
	for class := range 6 {
		marked := uint64(0)
		for k := geom.Places(class) - 1; k >= 0; k-- {
			addr := geom.Addr(class+1, k, class)
			if !a.Mark(addr) {
				t.Errorf("Mark(%d): false", addr)
			}
			marked |= 1 << k
			wantSpan(t, a, class+1, class, geom.Full(class), marked)
			if a.Mark(addr) {
				t.Errorf("Mark(%d) again: true", addr)
			}
			wantSpan(t, a, class+1, class, geom.Full(class), marked)
		}
		for later := class + 1; later < 6; later++ {
			wantSpan(t, a, later+1, later, geom.Full(later), 0)
		}
	}
}

// P4.2
func TestMarkRefuses(t *testing.T) {
	a := made(t, 8)
	set(t, a, 1, 1)
	l := take(t, a, 1, 3)
	set(t, a, 2, 0)
	a.Mark(l[1])
	before := picture(a)
	addrs := append(nowhere(), l[1], l[0]+1, l[0]+2, l[0]+3, l[2]+4, 124, 127, 128, 130, 192, 448)
	for _, addr := range addrs {
		if a.Mark(addr) {
			t.Errorf("Mark(%d): true", addr)
		}
		wantSame(t, a, before, fmt.Sprint("Mark ", addr))
	}
}

// P4.2: nothing is marked, in any span; all else stays.
func TestClear(t *testing.T) {
	for _, spans := range []int{8, 512} {
		a := made(t, spans)
		a.Clear()
		for n := 1; n < spans; n++ {
			class := n % 6
			set(t, a, n, class)
			for _, addr := range take(t, a, n, geom.Places(class)) {
				a.Write(addr, 1, addr)
				a.Mark(addr)
			}
		}
		for range 2 {
			a.Clear()
			for n := 1; n < spans; n++ {
				wantSpan(t, a, n, n%6, geom.Full(n%6), 0)
			}
		}
		for n := 1; n < spans; n++ {
			for k := range geom.Places(n % 6) {
				addr := geom.Addr(n, k, n%6)
				if v, e := a.Read(addr, 1); v != addr || e != api.OK {
					t.Errorf("Read(%d, 1) behind Clear: %d, %d", addr, v, e)
				}
				if !a.Mark(addr) {
					t.Errorf("Mark(%d) behind Clear: false", addr)
				}
			}
		}
	}
}

// sixteen makes an arena whose span 3 is of class 1, its first 12 places taken, those of a map marked.
func sixteen(t *testing.T, marked uint64) *arena.Arena {
	t.Helper()
	a := made(t, 8)
	set(t, a, 3, 1)
	for k, addr := range take(t, a, 3, 12) {
		if marked>>k&1 == 1 {
			a.Mark(addr)
		}
	}
	wantSpan(t, a, 3, 1, 0xfff, marked)
	return a
}

// P4.2: with none, some and all marked.
func TestSweep(t *testing.T) {
	for _, c := range []struct {
		marked       uint64
		count, class int
	}{
		{0, 12, -1}, {1, 11, 1}, {0x800, 11, 1}, {0x555, 6, 1}, {0xaaa, 6, 1}, {0x7ff, 1, 1}, {0xffe, 1, 1}, {0xfff, 0, 1},
	} {
		a := sixteen(t, c.marked)
		if n := a.Sweep(3); n != c.count {
			t.Errorf("Sweep with %b marked: %d, want %d", c.marked, n, c.count)
		}
		wantSpan(t, a, 3, c.class, c.marked, c.marked)
		for k := range 16 {
			if addr, want := int64(192+4*k), c.marked>>k&1 == 1; a.Is(addr) != want {
				t.Errorf("Is(%d) behind Sweep with %b marked: %v", addr, c.marked, !want)
			}
		}
		// The marks stay, so a second one finds nothing to give back.
		if n := a.Sweep(3); n != 0 {
			t.Errorf("Sweep again with %b marked: %d", c.marked, n)
		}
		wantSpan(t, a, 3, c.class, c.marked, c.marked)
	}
}

// P4.2: full spans of each class.
func TestSweepFull(t *testing.T) {
	for class := range 6 {
		a := made(t, 8)
		set(t, a, 1, class)
		l := take(t, a, 1, geom.Places(class))
		for _, addr := range l {
			a.Mark(addr)
		}
		if n := a.Sweep(1); n != 0 {
			t.Errorf("Sweep of class %d, all marked: %d", class, n)
		}
		wantSpan(t, a, 1, class, geom.Full(class), geom.Full(class))
		a.Clear()
		if n := a.Sweep(1); n != len(l) {
			t.Errorf("Sweep of class %d, none marked: %d", class, n)
		}
		wantSpan(t, a, 1, -1, 0, 0)
	}
}

// P4.2: a span of which no place was ever taken loses its class too.
func TestSweepOfNothingTaken(t *testing.T) {
	for class := range 6 {
		a := made(t, 8)
		set(t, a, 4, class)
		if n := a.Sweep(4); n != 0 {
			t.Errorf("Sweep of class %d, none taken: %d", class, n)
		}
		wantSpan(t, a, 4, -1, 0, 0)
		set(t, a, 4, 5-class)
	}
}

// P4.2: a span with no class, and one that there is not.
func TestSweepOfNone(t *testing.T) {
	a := filled(t)
	before := picture(a)
	for _, span := range []int{-1, 0, 7, 8, 9, 511, 512, math.MaxInt, math.MinInt} {
		if n := a.Sweep(span); n != 0 {
			t.Errorf("Sweep(%d): %d", span, n)
		}
		wantSame(t, a, before, fmt.Sprint("Sweep ", span))
	}
}

// P4.2: the other spans stay as they are, marks too.
func TestSweepOfOne(t *testing.T) {
	for span := 1; span <= 6; span++ {
		a := filled(t)
		a.Sweep(span)
		for class := range 6 {
			if n := class + 1; n != span {
				full := geom.Full(class)
				wantSpan(t, a, n, class, full, full&0xaaaaaaaaaaaaaaaa)
			}
		}
		for class := range 6 {
			for k := range geom.Places(class) {
				addr := geom.Addr(class+1, k, class)
				if class+1 == span && k%2 == 0 {
					continue
				}
				for at := range geom.Words(class) {
					if v, e := a.Read(addr, at); v != addr*100+int64(at) || e != api.OK {
						t.Errorf("Read(%d, %d) behind Sweep(%d): %d, %d", addr, at, span, v, e)
					}
				}
			}
		}
	}
}

// P4.2: a mark that has stayed keeps its place at the next Sweep; what was taken meanwhile is not kept by it.
func TestMarksStay(t *testing.T) {
	a := sixteen(t, 0x0f0)
	if n := a.Sweep(3); n != 8 {
		t.Errorf("Sweep(3): %d", n)
	}
	if a.Mark(192 + 4*5) {
		t.Errorf("Mark of one whose mark has stayed: true")
	}
	take(t, a, 3, 5)
	wantSpan(t, a, 3, 1, 0x1ff, 0x0f0)
	if n := a.Sweep(3); n != 5 {
		t.Errorf("Sweep(3) again: %d", n)
	}
	wantSpan(t, a, 3, 1, 0x0f0, 0x0f0)
	a.Clear()
	if n := a.Sweep(3); n != 4 {
		t.Errorf("Sweep(3) behind Clear: %d", n)
	}
	wantSpan(t, a, 3, -1, 0, 0)
}
