package bits_test

import (
	"math"
	"testing"

	"gantline/bits"
)

// words are maps of bits: none, all, one, all but one, and others.
func words() []uint64 {
	list := []uint64{0, math.MaxUint64, 0xF0, 0x0123456789ABCDEF, 0xAAAAAAAAAAAAAAAA}
	for k := range 64 {
		list = append(list, 1<<k, ^(uint64(1) << k), 1<<k-1)
	}
	return append(list, many(20)...)
}

// spread tells the bits of a word one by one.
func spread(w uint64) [64]bool {
	var row [64]bool
	for k := range row {
		row[k] = w%2 == 1
		w /= 2
	}
	return row
}

// gather makes a word of bits.
func gather(row []bool) uint64 {
	w := uint64(0)
	for k := len(row) - 1; k >= 0; k-- {
		w *= 2
		if row[k] {
			w++
		}
	}
	return w
}

// P1.2: every part that lies in a word, at + n of 64 too.
func TestFieldInside(t *testing.T) {
	if got := bits.Field(0xF0, 4, 4); got != 15 {
		t.Errorf("Field(0xF0, 4, 4): %d", got)
	}
	for _, w := range words() {
		row := spread(w)
		for at := 0; at <= 64; at++ {
			for n := 0; at+n <= 64; n++ {
				if got, want := bits.Field(w, at, n), gather(row[at:at+n]); got != want {
					t.Fatalf("Field(%x, %d, %d): %x, want %x", w, at, n, got, want)
				}
			}
		}
	}
}

// P1.2
func TestWithInside(t *testing.T) {
	for _, c := range []struct {
		w     uint64
		at, n int
		v     uint64
		want  uint64
	}{
		{0, 4, 4, 15, 0xF0}, {0xFFF, 4, 4, 0, 0xF0F}, {0xFFF, 4, 4, 0xA, 0xFAF},
		{0, 4, 4, 0x1A, 0xA0}, {7, 0, 64, 9, 9}, {7, 64, 0, 9, 7}, {7, 3, 0, 9, 7},
		{0, 63, 1, 3, 1 << 63}, {math.MaxUint64, 63, 1, 2, math.MaxInt64},
	} {
		if got := bits.With(c.w, c.at, c.n, c.v); got != c.want {
			t.Errorf("With(%x, %d, %d, %x): %x, want %x", c.w, c.at, c.n, c.v, got, c.want)
		}
	}
	for _, w := range words() {
		for _, v := range []uint64{0, math.MaxUint64, 0x5A5A5A5A5A5A5A5A} {
			for at := 0; at <= 64; at++ {
				for n := 0; at+n <= 64; n++ {
					row, other := spread(w), spread(v)
					copy(row[at:at+n], other[:n])
					if got, want := bits.With(w, at, n, v), gather(row[:]); got != want {
						t.Fatalf("With(%x, %d, %d, %x): %x, want %x", w, at, n, v, got, want)
					}
				}
			}
		}
	}
}

// P1.2: below 0, or at + n past 64, even where that sum wraps round.
func TestFieldWithOutside(t *testing.T) {
	for _, c := range []struct{ at, n int }{
		{-1, 1}, {-1, 0}, {-1, 65}, {-64, 64}, {-5, 5}, {0, -1}, {4, -4}, {64, -64}, {65, -1}, {-1, -1},
		{0, 65}, {1, 64}, {63, 2}, {64, 1}, {65, 0}, {32, 33}, {100, 0}, {0, 100},
		{math.MaxInt, 1}, {1, math.MaxInt}, {math.MaxInt, math.MaxInt}, {math.MaxInt, 0}, {0, math.MaxInt},
		{math.MinInt, 0}, {0, math.MinInt}, {math.MinInt, math.MinInt}, {math.MinInt, math.MaxInt}, {math.MaxInt, math.MinInt},
	} {
		for _, w := range []uint64{0, 1, math.MaxUint64, 0x0123456789ABCDEF} {
			if got := bits.Field(w, c.at, c.n); got != 0 {
				t.Errorf("Field(%x, %d, %d): %x", w, c.at, c.n, got)
			}
			for _, v := range []uint64{0, 1, math.MaxUint64} {
				if got := bits.With(w, c.at, c.n, v); got != w {
					t.Errorf("With(%x, %d, %d, %x): %x", w, c.at, c.n, v, got)
				}
			}
		}
	}
}

// P1.2
func TestOnesFirst(t *testing.T) {
	for _, c := range []struct {
		w           uint64
		ones, first int
	}{
		{0, 0, 0}, {1, 1, 1}, {2, 1, 0}, {7, 3, 3}, {0xF0, 4, 0},
		{math.MaxInt64, 63, 63}, {1 << 63, 1, 0}, {math.MaxUint64, 64, 64},
	} {
		if got := bits.Ones(c.w); got != c.ones {
			t.Errorf("Ones(%x): %d, want %d", c.w, got, c.ones)
		}
		if got := bits.First(c.w); got != c.first {
			t.Errorf("First(%x): %d, want %d", c.w, got, c.first)
		}
	}
	for _, w := range words() {
		ones, first := 0, 64
		for k, one := range spread(w) {
			if one {
				ones++
			} else {
				first = min(first, k)
			}
		}
		if got := bits.Ones(w); got != ones {
			t.Errorf("Ones(%x): %d, want %d", w, got, ones)
		}
		if got := bits.First(w); got != first {
			t.Errorf("First(%x): %d, want %d", w, got, first)
		}
	}
}

// P1.2
func TestNext(t *testing.T) {
	for _, c := range []struct {
		w          uint64
		from, want int
	}{
		{0xF0, 0, 4}, {0xF0, 4, 4}, {0xF0, 5, 5}, {0xF0, 7, 7}, {0xF0, 8, 64},
		{0, 0, 64}, {1, 0, 0}, {1, 1, 64}, {1, -1, 0}, {2, math.MinInt, 1},
		{1 << 63, 63, 63}, {1 << 63, 64, 64},
		{math.MaxUint64, 64, 64}, {math.MaxUint64, 65, 64}, {math.MaxUint64, 128, 64}, {math.MaxUint64, math.MaxInt, 64},
	} {
		if got := bits.Next(c.w, c.from); got != c.want {
			t.Errorf("Next(%x, %d): %d, want %d", c.w, c.from, got, c.want)
		}
	}
	for _, w := range words() {
		row := spread(w)
		for from := -3; from <= 67; from++ {
			want := 64
			for k := 63; k >= max(from, 0); k-- {
				if row[k] {
					want = k
				}
			}
			if got := bits.Next(w, from); got != want {
				t.Errorf("Next(%x, %d): %d, want %d", w, from, got, want)
			}
		}
	}
}
