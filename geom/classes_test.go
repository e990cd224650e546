package geom_test

import (
	"math"
	"testing"

	"gantline/api"
	"gantline/geom"
)

// layout is one class as the chapter tells it, written out.
type layout struct {
	class, words, places int
	full                 uint64
}

// layouts are the six classes.
func layouts() []layout {
	return []layout{
		{0, 2, 32, 0xFFFFFFFF},
		{1, 4, 16, 0xFFFF},
		{2, 8, 8, 0xFF},
		{3, 16, 4, 0xF},
		{4, 32, 2, 3},
		{5, 64, 1, 1},
	}
}

// noClasses are numbers of classes that there are not. Those far off would be classes again if a shift took its count modulo 32 or 64.
func noClasses() []int {
	return []int{
		-1, 6, -2, 7, -6, 31, 32, 33, 37, 62, 63, 64, 65, 69, 70, -32, -63, -64, 256, 1 << 32, 1<<32 + 1,
		math.MaxInt, math.MaxInt - 1, math.MinInt, math.MinInt + 1,
	}
}

// P2.1
func TestClass(t *testing.T) {
	for _, c := range []struct{ words, want int }{
		{1, 0}, {2, 0}, {3, 1}, {4, 1}, {5, 2}, {8, 2}, {9, 3}, {16, 3}, {17, 4}, {32, 4}, {33, 5}, {63, 5},
		{api.MaxWords, 5},
	} {
		if got := geom.Class(c.words); got != c.want {
			t.Errorf("Class(%d): %d, want %d", c.words, got, c.want)
		}
	}
	for words := 1; words <= api.MaxWords; words++ {
		want := -1
		for _, l := range layouts() {
			if l.words >= words {
				want = l.class
				break
			}
		}
		if got := geom.Class(words); got != want {
			t.Errorf("Class(%d): %d, want %d", words, got, want)
		}
	}
}

// P2.1: 0 and below, one more than MaxWords and above.
func TestClassOutside(t *testing.T) {
	for _, words := range []int{
		0, -1, -2, -64, math.MinInt, math.MinInt + 1,
		api.MaxWords + 1, 66, 128, 1 << 32, 1<<32 + 2, math.MaxInt, math.MaxInt - 1,
	} {
		if got := geom.Class(words); got != -1 {
			t.Errorf("Class(%d): %d", words, got)
		}
	}
}

// P2.1
func TestWords(t *testing.T) {
	for _, l := range layouts() {
		if got := geom.Words(l.class); got != l.words {
			t.Errorf("Words(%d): %d, want %d", l.class, got, l.words)
		}
	}
	for _, class := range noClasses() {
		if got := geom.Words(class); got != 0 {
			t.Errorf("Words(%d): %d", class, got)
		}
	}
}

// P2.1
func TestPlaces(t *testing.T) {
	for _, l := range layouts() {
		if got := geom.Places(l.class); got != l.places {
			t.Errorf("Places(%d): %d, want %d", l.class, got, l.places)
		}
	}
	for _, class := range noClasses() {
		if got := geom.Places(class); got != 0 {
			t.Errorf("Places(%d): %d", class, got)
		}
	}
}

// P2.1
func TestFull(t *testing.T) {
	for _, l := range layouts() {
		if got := geom.Full(l.class); got != l.full {
			t.Errorf("Full(%d): %x, want %x", l.class, got, l.full)
		}
	}
	for _, class := range noClasses() {
		if got := geom.Full(class); got != 0 {
			t.Errorf("Full(%d): %x", class, got)
		}
	}
}
