package arena_test

import (
	"fmt"
	"math"
	"strings"
	"testing"

	"gantline/api"
	"gantline/arena"
	"gantline/geom"
)

// made makes an arena.
func made(t *testing.T, spans int) *arena.Arena {
	t.Helper()
	a, e := arena.New(spans)
	if e != api.OK || a == nil {
		t.Fatalf("New(%d): %d", spans, e)
	}
	return a
}

// set gives a span a class.
func set(t *testing.T, a *arena.Arena, span, class int) {
	t.Helper()
	if e := a.Set(span, class); e != api.OK {
		t.Fatalf("Set(%d, %d): %d", span, class, e)
	}
}

// take takes so many places of a span.
func take(t *testing.T, a *arena.Arena, span, count int) []int64 {
	t.Helper()
	var l []int64
	for range count {
		addr, e := a.Take(span)
		if e != api.OK {
			t.Fatalf("Take(%d): %d", span, e)
		}
		l = append(l, addr)
	}
	return l
}

// wantSpan wants a span to be so.
func wantSpan(t *testing.T, a *arena.Arena, span, class int, taken, marked uint64) {
	t.Helper()
	if c, x, y := a.Class(span), a.Taken(span), a.Marked(span); c != class || x != taken || y != marked {
		t.Errorf("span %d: class %d, taken %b, marked %b, want %d, %b, %b", span, c, x, y, class, taken, marked)
	}
}

// picture tells all that can be asked of an arena.
func picture(a *arena.Arena) string {
	var s strings.Builder
	fmt.Fprintln(&s, a.Spans())
	for n := -1; n <= a.Spans(); n++ {
		class := a.Class(n)
		fmt.Fprintln(&s, n, class, a.Taken(n), a.Marked(n))
		for k := range geom.Places(class) {
			addr := geom.Addr(n, k, class)
			for at := range geom.Words(class) {
				v, e := a.Read(addr, at)
				fmt.Fprint(&s, v, " ", e, " ")
			}
		}
	}
	return s.String()
}

// wantSame wants an arena to be as it was when its picture was made.
func wantSame(t *testing.T, a *arena.Arena, before, what string) {
	t.Helper()
	if picture(a) != before {
		t.Errorf("%s: the arena has changed", what)
	}
}

// filled makes an arena with a span of each class, all places of the spans 1 to 6 taken and written to, every second one marked.
func filled(t *testing.T) *arena.Arena {
	t.Helper()
	a := made(t, 8)
	for class := range 6 {
		set(t, a, class+1, class)
		for k, addr := range take(t, a, class+1, geom.Places(class)) {
			for at := range geom.Words(class) {
				a.Write(addr, at, addr*100+int64(at))
			}
			if k%2 == 1 {
				a.Mark(addr)
			}
		}
	}
	return a
}

// P4.1
func TestNew(t *testing.T) {
	for _, spans := range []int{8, 9, 100, 511, 512} {
		a := made(t, spans)
		if n := a.Spans(); n != spans {
			t.Errorf("New(%d): Spans() %d", spans, n)
		}
		for n := -2; n < spans+2; n++ {
			wantSpan(t, a, n, -1, 0, 0)
		}
		for addr := int64(0); addr <= int64(64*spans); addr++ {
			if a.Is(addr) {
				t.Errorf("New(%d): a place is taken at %d", spans, addr)
			}
		}
	}
}

// P4.1
func TestNewRefuses(t *testing.T) {
	for _, spans := range []int{7, 513, 1, 0, -1, -8, 1 << 40, math.MaxInt, math.MinInt} {
		if a, e := arena.New(spans); a != nil || e != api.EARG {
			t.Errorf("New(%d): %v, %d", spans, a, e)
		}
	}
}

// P4.1: words that were never written to are 0, in each place of an arena.
func TestNewWords(t *testing.T) {
	a := made(t, 512)
	for n := 1; n < 512; n++ {
		set(t, a, n, 5)
		addr := take(t, a, n, 1)[0]
		for at := range 64 {
			if v, e := a.Read(addr, at); v != 0 || e != api.OK {
				t.Fatalf("Read(%d, %d): %d, %d", addr, at, v, e)
			}
		}
	}
}

// P4.1: two arenas have nothing in common.
func TestNewApart(t *testing.T) {
	a, b := made(t, 8), made(t, 8)
	set(t, a, 1, 0)
	take(t, a, 1, 1)
	wantSpan(t, b, 1, -1, 0, 0)
	set(t, b, 1, 0)
	wantSpan(t, b, 1, 0, 0, 0)
}

// P4.1
func TestSet(t *testing.T) {
	for _, span := range []int{1, 2, 7} {
		for class := range 6 {
			a := made(t, 8)
			set(t, a, span, class)
			for n := -1; n <= 8; n++ {
				want := -1
				if n == span {
					want = class
				}
				wantSpan(t, a, n, want, 0, 0)
			}
		}
	}
	a := made(t, 512)
	set(t, a, 511, 3)
	wantSpan(t, a, 511, 3, 0, 0)
}

// P4.1: EARG is named ahead of EFULL, so a class that there is not is EARG for a span that has one, too.
func TestSetRefuses(t *testing.T) {
	a := made(t, 8)
	set(t, a, 1, 2)
	take(t, a, 1, 2)
	before := picture(a)
	for _, c := range []struct{ span, class int }{
		{-1, 0}, {0, 0}, {8, 0}, {9, 0}, {512, 0}, {math.MaxInt, 0}, {math.MinInt, 0},
		{2, -1}, {2, 6}, {2, math.MaxInt}, {2, math.MinInt},
		{0, -1}, {8, 6}, {1, -1}, {1, 6},
	} {
		if e := a.Set(c.span, c.class); e != api.EARG {
			t.Errorf("Set(%d, %d): %d", c.span, c.class, e)
		}
		wantSame(t, a, before, fmt.Sprint("Set", c))
	}
}

// P4.1
func TestSetAgain(t *testing.T) {
	for class := range 6 {
		a := made(t, 8)
		set(t, a, 3, class)
		for again := range 6 {
			if e := a.Set(3, again); e != api.EFULL {
				t.Errorf("Set(3, %d) of one of class %d: %d", again, class, e)
			}
			wantSpan(t, a, 3, class, 0, 0)
		}
		addr := take(t, a, 3, 1)[0]
		a.Mark(addr)
		a.Write(addr, 0, 5)
		before := picture(a)
		for again := range 6 {
			if e := a.Set(3, again); e != api.EFULL {
				t.Errorf("Set(3, %d) of one of class %d: %d", again, class, e)
			}
			wantSame(t, a, before, "Set again")
		}
	}
}

// P4.1: until a span is full, the addresses in their order.
func TestTake(t *testing.T) {
	first := []int64{64, 128, 192, 256, 320, 384}
	words := []int64{2, 4, 8, 16, 32, 64}
	a := made(t, 8)
	for class := range 6 {
		set(t, a, class+1, class)
	}
	for class := range 6 {
		full := uint64(0)
		for k := range 64 / words[class] {
			addr, e := a.Take(class + 1)
			if want := first[class] + k*words[class]; addr != want || e != api.OK {
				t.Errorf("Take(%d): %d, %d, want %d", class+1, addr, e, want)
			}
			full |= 1 << k
			wantSpan(t, a, class+1, class, full, 0)
			if !a.Is(addr) {
				t.Errorf("Is(%d) behind Take: false", addr)
			}
		}
		before := picture(a)
		for range 2 {
			if addr, e := a.Take(class + 1); addr != 0 || e != api.EFULL {
				t.Errorf("Take(%d) of a full one: %d, %d", class+1, addr, e)
			}
			wantSame(t, a, before, "Take of a full one")
		}
		for later := class + 1; later < 6; later++ {
			wantSpan(t, a, later+1, later, 0, 0)
		}
	}
}

// P4.1
func TestTakeLastSpan(t *testing.T) {
	a := made(t, 512)
	set(t, a, 511, 0)
	for k, addr := range take(t, a, 511, 32) {
		if want := int64(511*64 + 2*k); addr != want {
			t.Errorf("place %d of the span 511: %d, want %d", k, addr, want)
		}
	}
}

// P4.1
func TestTakeRefuses(t *testing.T) {
	a := made(t, 8)
	set(t, a, 1, 1)
	take(t, a, 1, 3)
	before := picture(a)
	for _, span := range []int{-1, 0, 2, 7, 8, 9, 512, math.MaxInt, math.MinInt} {
		if addr, e := a.Take(span); addr != 0 || e != api.ENONE {
			t.Errorf("Take(%d): %d, %d", span, addr, e)
		}
		wantSame(t, a, before, fmt.Sprint("Take ", span))
	}
}

// P4.1: the least that is free, its words 0, not marked, the others as they are.
func TestTakeAnew(t *testing.T) {
	a := filled(t)
	for class := range 5 {
		span, kept := class+1, a.Marked(class+1)
		if n := a.Sweep(span); n != geom.Places(class)/2 {
			t.Fatalf("Sweep(%d): %d", span, n)
		}
		taken := kept
		for k := 0; k < geom.Places(class); k += 2 {
			addr, e := a.Take(span)
			if want := geom.Addr(span, k, class); addr != want || e != api.OK {
				t.Fatalf("Take(%d): %d, %d, want %d", span, addr, e, want)
			}
			taken |= 1 << k
			wantSpan(t, a, span, class, taken, kept)
			for at := range geom.Words(class) {
				if v, e := a.Read(addr, at); v != 0 || e != api.OK {
					t.Errorf("Read(%d, %d) of one taken anew: %d, %d", addr, at, v, e)
				}
			}
			if !a.Mark(addr) {
				t.Errorf("Mark(%d) of one taken anew: false", addr)
			}
			kept |= 1 << k
		}
		for k := 1; k < geom.Places(class); k += 2 {
			addr := geom.Addr(span, k, class)
			for at := range geom.Words(class) {
				if v, _ := a.Read(addr, at); v != addr*100+int64(at) {
					t.Errorf("Read(%d, %d) of one that was kept: %d", addr, at, v)
				}
			}
		}
	}
}

// P4.1: a span that has lost its class takes another one; its words are 0 when they are taken.
func TestTakeInAnotherClass(t *testing.T) {
	for from := range 6 {
		for to := range 6 {
			a := made(t, 8)
			set(t, a, 7, from)
			for _, addr := range take(t, a, 7, geom.Places(from)) {
				for at := range geom.Words(from) {
					a.Write(addr, at, -1)
				}
				a.Mark(addr)
			}
			a.Clear()
			if n := a.Sweep(7); n != geom.Places(from) {
				t.Fatalf("Sweep(7): %d", n)
			}
			set(t, a, 7, to)
			wantSpan(t, a, 7, to, 0, 0)
			for k, addr := range take(t, a, 7, geom.Places(to)) {
				if want := geom.Addr(7, k, to); addr != want {
					t.Errorf("place %d of class %d: %d, want %d", k, to, addr, want)
				}
				for at := range geom.Words(to) {
					if v, e := a.Read(addr, at); v != 0 || e != api.OK {
						t.Errorf("Read(%d, %d): %d, %d", addr, at, v, e)
					}
				}
			}
			wantSpan(t, a, 7, to, geom.Full(to), 0)
		}
	}
}

// The chapter's example.
func TestExample(t *testing.T) {
	a := made(t, 8)
	set(t, a, 1, 0)
	for _, want := range []int64{64, 66} {
		if addr, e := a.Take(1); addr != want || e != api.OK {
			t.Errorf("Take(1): %d, %d, want %d", addr, e, want)
		}
	}
	if n := a.Sweep(1); n != 2 {
		t.Errorf("Sweep(1): %d", n)
	}
	if c := a.Class(1); c != -1 {
		t.Errorf("Class(1): %d", c)
	}
}
