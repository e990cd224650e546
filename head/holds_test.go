package head_test

import (
	"math"
	"testing"

	"gantline/head"
)

// wantHolds wants Holds to say so.
func wantHolds(t *testing.T, s head.Shape, field, words int, want bool) {
	t.Helper()
	if s.Holds(field, words) != want {
		t.Errorf("%v.Holds(%d, %d): %v", s, field, words, !want)
	}
}

// P3.2: each field of objects of each size, by the Map's own bits.
func TestHoldsByMap(t *testing.T) {
	for _, kind := range []int{0, 2} {
		for _, m := range []uint64{0, 1, 2, 5, 0x5555555555555555, 0x2AAAAAAAAAAAAAAA, 1 << 62, 1<<63 - 1} {
			s := head.Shape{Kind: kind, Fields: 63, Map: m}
			for words := 1; words <= 64; words++ {
				for field := range words - 1 {
					wantHolds(t, s, field, words, m/(1<<field)%2 == 1)
				}
			}
		}
	}
}

// P3.2: an array's elements are all its fields, a channel's begin at its field 4.
func TestHoldsByElements(t *testing.T) {
	for words := 1; words <= 64; words++ {
		for field := range words - 1 {
			wantHolds(t, head.Shape{Kind: 1, Map: 1}, field, words, true)
			wantHolds(t, head.Shape{Kind: 1, Map: 0}, field, words, false)
			wantHolds(t, head.Shape{Kind: 3, Map: 1}, field, words, field >= 4)
			wantHolds(t, head.Shape{Kind: 3, Map: 0}, field, words, false)
		}
	}
}

// P3.2: the edges of an object, of each kind, where all fields that may hold addresses do.
func TestHoldsEdges(t *testing.T) {
	for kind := range 4 {
		s := head.Shape{Kind: kind, Map: 1}
		if kind == 0 || kind == 2 {
			s = head.Shape{Kind: kind, Fields: 63, Map: 1<<63 - 1}
		}
		for _, words := range []int{2, 3, 6, 7, 63, 64} {
			wantHolds(t, s, -1, words, false)
			wantHolds(t, s, 0, words, kind != 3)
			wantHolds(t, s, words-2, words, kind != 3 || words >= 6)
			wantHolds(t, s, words-1, words, false)
			wantHolds(t, s, words, words, false)
			wantHolds(t, s, math.MinInt, words, false)
			wantHolds(t, s, math.MaxInt, words, false)
		}
		for _, words := range []int{1, 0, -1, -2, -64, math.MinInt, math.MinInt + 1, math.MinInt + 2} {
			for _, field := range []int{-2, -1, 0, 1, 4, 62, math.MinInt, math.MaxInt - 1, math.MaxInt} {
				wantHolds(t, s, field, words, false)
			}
		}
	}
}

// P3.2: the first fields of a channel are its own.
func TestHoldsOfChannels(t *testing.T) {
	for _, c := range []struct {
		m            uint64
		field, words int
		want         bool
	}{
		{1, 3, 64, false}, {1, 4, 64, true}, {1, 62, 64, true}, {1, 63, 64, false},
		{1, 3, 5, false}, {1, 4, 5, false}, {1, 4, 6, true}, {1, 5, 6, false},
		{0, 3, 64, false}, {0, 4, 64, false},
	} {
		wantHolds(t, head.Shape{Kind: 3, Map: c.m}, c.field, c.words, c.want)
	}
}

// P3.2: words are not bounded, but a Map has 64 bits; an element's bit is none of them.
func TestHoldsOfManyWords(t *testing.T) {
	for _, field := range []int{64, 65, 127, 128, 1 << 32, math.MaxInt - 2} {
		wantHolds(t, head.Shape{Fields: 63, Map: 1<<63 - 1}, field, math.MaxInt, false)
		wantHolds(t, head.Shape{Kind: 2, Fields: 63, Map: 1<<63 - 1}, field, math.MaxInt, false)
		wantHolds(t, head.Shape{Kind: 1, Map: 1}, field, math.MaxInt, true)
		wantHolds(t, head.Shape{Kind: 3, Map: 1}, field, math.MaxInt, true)
	}
	wantHolds(t, head.Shape{Kind: 1, Map: 1}, math.MaxInt-1, math.MaxInt, false)
}

// P3.2: of shapes that may not be: there is no fifth kind, and the Map alone tells of the others.
func TestHoldsOfWrongShapes(t *testing.T) {
	for _, kind := range []int{-1, 4, 5, math.MinInt, math.MaxInt} {
		for _, field := range []int{-1, 0, 3, 4, 62} {
			wantHolds(t, head.Shape{Kind: kind, Fields: 63, Map: math.MaxUint64}, field, 64, false)
		}
	}
	wantHolds(t, head.Shape{Fields: 1, Map: 2}, 1, 3, true)
	wantHolds(t, head.Shape{Map: 1 << 63}, 63, 65, true)
	wantHolds(t, head.Shape{Kind: 1, Map: 2}, 1, 3, false)
	wantHolds(t, head.Shape{Kind: 3, Map: 2}, 4, 7, false)
	wantHolds(t, head.Shape{Kind: 3, Map: 3}, 4, 7, true)
}
