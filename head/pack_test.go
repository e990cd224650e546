package head_test

import (
	"math"
	"testing"

	"gantline/api"
	"gantline/head"
)

// refusedShape wants a shape that may not be.
func refusedShape(t *testing.T, s head.Shape) {
	t.Helper()
	if head.Good(s) {
		t.Errorf("Good(%v): true", s)
	}
}

// goodShape wants a shape that may be.
func goodShape(t *testing.T, s head.Shape) {
	t.Helper()
	if !head.Good(s) {
		t.Errorf("Good(%v): false", s)
	}
}

// P3.1: which fields a plain object and a closure may have, and which bits their Map.
func TestGoodWithFields(t *testing.T) {
	for _, kind := range []int{0, 2} {
		for fields := range 64 {
			goodShape(t, head.Shape{Kind: kind, Fields: fields})
			goodShape(t, head.Shape{Kind: kind, Fields: fields, Map: 1<<fields - 1})
			if fields > 0 {
				goodShape(t, head.Shape{Kind: kind, Fields: fields, Map: 1 << (fields - 1)})
			}
			for bit := fields; bit < 64; bit++ {
				refusedShape(t, head.Shape{Kind: kind, Fields: fields, Map: 1 << bit})
			}
			refusedShape(t, head.Shape{Kind: kind, Fields: fields, Map: math.MaxUint64})
		}
		for _, fields := range []int{-1, -2, -64, math.MinInt, 64, 65, 128, 256, math.MaxInt} {
			for _, m := range []uint64{0, 1, 1 << 62, 1 << 63} {
				refusedShape(t, head.Shape{Kind: kind, Fields: fields, Map: m})
			}
		}
	}
}

// P3.1: an array's and a channel's shape says nothing but whether the elements hold addresses.
func TestGoodWithElements(t *testing.T) {
	for _, kind := range []int{1, 3} {
		goodShape(t, head.Shape{Kind: kind})
		goodShape(t, head.Shape{Kind: kind, Map: 1})
		for _, m := range []uint64{2, 3, 4, 16, 1 << 32, 1<<32 + 1, 1 << 63, math.MaxUint64} {
			refusedShape(t, head.Shape{Kind: kind, Map: m})
		}
		for _, fields := range []int{-1, 1, 2, 63, 64, math.MinInt, math.MaxInt} {
			refusedShape(t, head.Shape{Kind: kind, Fields: fields})
			refusedShape(t, head.Shape{Kind: kind, Fields: fields, Map: 1})
		}
	}
}

// P3.1
func TestGoodKinds(t *testing.T) {
	for kind := range 4 {
		goodShape(t, head.Shape{Kind: kind})
	}
	for _, kind := range []int{-1, -2, 4, 5, 8, 256, math.MinInt, math.MaxInt} {
		refusedShape(t, head.Shape{Kind: kind})
		refusedShape(t, head.Shape{Kind: kind, Map: 1})
		refusedShape(t, head.Shape{Kind: kind, Fields: 1})
	}
}

// P3.1
func TestPackExamples(t *testing.T) {
	for _, c := range []struct {
		h    head.Head
		want int64
	}{
		{head.Head{Words: 2, Kind: 0, Shape: 1}, 1026},
		{head.Head{Words: 1}, 1},
		{head.Head{Words: 64}, 64},
		{head.Head{Words: 1, Kind: 1}, 129},
		{head.Head{Words: 1, Kind: 2}, 257},
		{head.Head{Words: 1, Kind: 3}, 385},
		{head.Head{Words: 5, Kind: 3, Shape: 2}, 5 + 384 + 2048},
		{head.Head{Words: 64, Kind: 3, Shape: 65535}, 64 + 384 + 65535*1024},
	} {
		if w, e := head.Pack(c.h); w != c.want || e != api.OK {
			t.Errorf("Pack(%v): %d, %d, want %d", c.h, w, e, c.want)
		}
		if h, e := head.Unpack(c.want); h != c.h || e != api.OK {
			t.Errorf("Unpack(%d): %v, %d, want %v", c.want, h, e, c.h)
		}
	}
}

// P3.1: every count of words and every kind, there and back.
func TestPackAll(t *testing.T) {
	for words := 1; words <= 64; words++ {
		for kind := range 4 {
			for _, shape := range []int{0, 1, 2, 255, 256, 1023, 32767, 32768, 65534, 65535} {
				h := head.Head{Words: words, Kind: kind, Shape: shape}
				want := int64(words + 128*kind + 1024*shape)
				if w, e := head.Pack(h); w != want || e != api.OK {
					t.Fatalf("Pack(%v): %d, %d, want %d", h, w, e, want)
				}
				if back, e := head.Unpack(want); back != h || e != api.OK {
					t.Fatalf("Unpack(%d): %v, %d, want %v", want, back, e, h)
				}
			}
		}
	}
}

// P3.1
func TestPackRefuses(t *testing.T) {
	var wrong []head.Head
	for _, words := range []int{0, -1, -64, 65, 66, 127, 128, 129, math.MinInt, math.MinInt + 1, math.MaxInt} {
		wrong = append(wrong, head.Head{Words: words}, head.Head{Words: words, Kind: 3, Shape: 65535})
	}
	for _, kind := range []int{-1, -4, 4, 5, 7, 8, 9, math.MinInt, math.MaxInt} {
		wrong = append(wrong, head.Head{Words: 1, Kind: kind}, head.Head{Words: 64, Kind: kind, Shape: 65535})
	}
	for _, shape := range []int{-1, -65536, 65536, 65537, 1 << 32, math.MinInt, math.MaxInt} {
		wrong = append(wrong, head.Head{Words: 1, Shape: shape}, head.Head{Words: 64, Kind: 3, Shape: shape})
	}
	for _, h := range wrong {
		if w, e := head.Pack(h); w != 0 || e != api.EARG {
			t.Errorf("Pack(%v): %d, %d", h, w, e)
		}
	}
}

// P3.1: words of which Pack tells none.
func TestUnpackRefuses(t *testing.T) {
	wrong := []int64{0, -1, -2, -1026, math.MinInt64, math.MinInt64 + 1026, math.MaxInt64, 1024, 128, 384}
	for words := int64(65); words < 128; words++ {
		wrong = append(wrong, words, words+128, words+1024)
	}
	for kind := int64(4); kind < 8; kind++ {
		wrong = append(wrong, 1+128*kind, 64+128*kind, 2+128*kind+1024)
	}
	for bit := 26; bit < 64; bit++ {
		wrong = append(wrong, 1026|1<<bit, 1<<bit)
	}
	for _, w := range wrong {
		if h, e := head.Unpack(w); h != (head.Head{}) || e != api.EFORM {
			t.Errorf("Unpack(%d): %v, %d", w, h, e)
		}
	}
}
