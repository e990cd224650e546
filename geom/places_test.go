package geom_test

import (
	"math"
	"testing"

	"gantline/api"
	"gantline/geom"
)

// end is the first address behind the greatest heap.
const end = 64 * api.MaxSpans

// noAddrs are addresses that no heap has.
func noAddrs() []int64 {
	return []int64{
		-1, -2, -63, -64, -65, -128, -end, math.MinInt64, math.MinInt64 + 64,
		end, end + 1, end + 64, 2 * end, 1 << 32, 1<<32 + 128, math.MaxInt64, math.MaxInt64 - 63,
	}
}

// P2.1
func TestSpan(t *testing.T) {
	for _, c := range []struct {
		addr int64
		want int
	}{
		{0, 0}, {1, 0}, {63, 0}, {64, 1}, {65, 1}, {127, 1}, {128, 2}, {140, 2},
		{end - 65, api.MaxSpans - 2}, {end - 64, api.MaxSpans - 1}, {end - 1, api.MaxSpans - 1},
	} {
		if got := geom.Span(c.addr); got != c.want {
			t.Errorf("Span(%d): %d, want %d", c.addr, got, c.want)
		}
	}
	addr := int64(0)
	for span := range api.MaxSpans {
		for range 64 {
			if got := geom.Span(addr); got != span {
				t.Fatalf("Span(%d): %d, want %d", addr, got, span)
			}
			addr++
		}
	}
	for _, addr := range noAddrs() {
		if got := geom.Span(addr); got != -1 {
			t.Errorf("Span(%d): %d", addr, got)
		}
	}
}

// P2.1: each address of a heap, in each class; in most of them no place begins.
func TestPlace(t *testing.T) {
	for _, c := range []struct {
		addr        int64
		class, want int
	}{
		{140, 1, 3}, {141, 1, -1}, {142, 1, -1}, {142, 0, 7}, {139, 0, -1},
		{128, 5, 0}, {160, 5, -1}, {160, 4, 1}, {176, 3, 3}, {184, 2, 7}, {188, 1, 15}, {190, 0, 31},
		{0, 0, 0}, {0, 5, 0}, {2, 0, 1}, {62, 0, 31},
		{end - 1, 0, -1}, {end - 2, 0, 31}, {end - 64, 5, 0},
	} {
		if got := geom.Place(c.addr, c.class); got != c.want {
			t.Errorf("Place(%d, %d): %d, want %d", c.addr, c.class, got, c.want)
		}
	}
	for _, l := range layouts() {
		for span := range api.MaxSpans {
			var begins [64]int
			for at := range begins {
				begins[at] = -1
			}
			for place := range l.places {
				begins[place*l.words] = place
			}
			for at, want := range begins {
				addr := int64(span*64 + at)
				if got := geom.Place(addr, l.class); got != want {
					t.Fatalf("Place(%d, %d): %d, want %d", addr, l.class, got, want)
				}
			}
		}
	}
}

// P2.1: no such class, or no such address.
func TestPlaceOutside(t *testing.T) {
	for _, class := range noClasses() {
		for _, addr := range append(noAddrs(), 0, 1, 64, 128, 140, end-64, end-1) {
			if got := geom.Place(addr, class); got != -1 {
				t.Errorf("Place(%d, %d): %d", addr, class, got)
			}
		}
	}
	for _, l := range layouts() {
		for _, addr := range noAddrs() {
			if got := geom.Place(addr, l.class); got != -1 {
				t.Errorf("Place(%d, %d): %d", addr, l.class, got)
			}
		}
	}
}

// P2.1: each place of each span, in each class; Span and Place find it again.
func TestAddr(t *testing.T) {
	for _, c := range []struct {
		span, place, class int
		want               int64
	}{
		{2, 3, 1, 140}, {1, 0, 0, 64}, {1, 0, 5, 64}, {1, 31, 0, 126},
		{api.MaxSpans - 1, 0, 5, end - 64}, {api.MaxSpans - 1, 31, 0, end - 2},
	} {
		if got := geom.Addr(c.span, c.place, c.class); got != c.want {
			t.Errorf("Addr(%d, %d, %d): %d, want %d", c.span, c.place, c.class, got, c.want)
		}
	}
	for _, l := range layouts() {
		want := int64(64)
		for span := 1; span < api.MaxSpans; span++ {
			for place := range l.places {
				if got := geom.Addr(span, place, l.class); got != want {
					t.Fatalf("Addr(%d, %d, %d): %d, want %d", span, place, l.class, got, want)
				}
				if geom.Span(want) != span || geom.Place(want, l.class) != place {
					t.Fatalf("Span(%d), Place(%d, %d): %d, %d, want %d, %d",
						want, want, l.class, geom.Span(want), geom.Place(want, l.class), span, place)
				}
				want += int64(l.words)
			}
		}
	}
}

// P2.1: the place ahead of the first, the one behind the last, and others that there are not.
func TestAddrNoPlace(t *testing.T) {
	for _, l := range layouts() {
		for _, span := range []int{1, 2, api.MaxSpans - 1} {
			for _, place := range []int{
				-1, -2, -32, l.places, l.places + 1, 33, 64, 1 << 32,
				math.MaxInt, math.MaxInt / 2, math.MinInt, math.MinInt / 2,
			} {
				if got := geom.Addr(span, place, l.class); got != 0 {
					t.Errorf("Addr(%d, %d, %d): %d", span, place, l.class, got)
				}
			}
		}
	}
}

// P2.1: the span 0 is never used.
func TestAddrNoSpan(t *testing.T) {
	for _, l := range layouts() {
		for _, span := range []int{
			0, -1, -2, -64, api.MaxSpans, api.MaxSpans + 1, 1 << 32, 1<<32 + 1, 1 << 58, 1<<58 + 1,
			math.MaxInt, math.MinInt, math.MinInt + 1,
		} {
			for _, place := range []int{0, l.places - 1} {
				if got := geom.Addr(span, place, l.class); got != 0 {
					t.Errorf("Addr(%d, %d, %d): %d", span, place, l.class, got)
				}
			}
		}
	}
}

// P2.1
func TestAddrNoClass(t *testing.T) {
	for _, class := range noClasses() {
		for _, span := range []int{0, 1, 2, api.MaxSpans - 1, api.MaxSpans} {
			for _, place := range []int{-1, 0, 1, 31} {
				if got := geom.Addr(span, place, class); got != 0 {
					t.Errorf("Addr(%d, %d, %d): %d", span, place, class, got)
				}
			}
		}
	}
}
