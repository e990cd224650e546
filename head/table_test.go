package head_test

import (
	"math"
	"testing"

	"gantline/api"
	"gantline/head"
)

// wantNumber wants a shape to have a number, and the table so many of them then.
func wantNumber(t *testing.T, x *head.Table, s head.Shape, number, count int) {
	t.Helper()
	if n, e := x.Number(s); n != number || e != api.OK {
		t.Fatalf("Number(%v): %d, %d, want %d", s, n, e, number)
	}
	if got := x.Len(); got != count {
		t.Fatalf("Len() behind Number(%v): %d, want %d", s, got, count)
	}
}

// wantNone wants a number to be no shape's.
func wantNone(t *testing.T, x *head.Table, n int) {
	t.Helper()
	if s, e := x.Shape(n); s != (head.Shape{}) || e != api.ENONE {
		t.Errorf("Shape(%d): %v, %d", n, s, e)
	}
}

// unlike are shapes that differ from each other in one thing or more.
func unlike() []head.Shape {
	return []head.Shape{
		{Kind: 0, Fields: 2, Map: 2},
		{Kind: 0, Fields: 2, Map: 1},
		{Kind: 0, Fields: 3, Map: 2},
		{Kind: 2, Fields: 2, Map: 2},
		{},
		{Kind: 1},
		{Kind: 2},
		{Kind: 3},
		{Kind: 1, Map: 1},
		{Kind: 3, Map: 1},
		{Fields: 63, Map: 1<<63 - 1},
		{Fields: 63, Map: 1 << 62},
	}
}

// P3.2
func TestNumber(t *testing.T) {
	x, shapes := head.New(), unlike()
	for n, s := range shapes {
		wantNumber(t, x, s, n, n+1)
		wantNumber(t, x, s, n, n+1)
	}
	for n := len(shapes) - 1; n >= 0; n-- {
		wantNumber(t, x, shapes[n], n, len(shapes))
	}
}

// P3.2: a refused shape has no number, and takes none away.
func TestNumberRefuses(t *testing.T) {
	x := head.New()
	for i, s := range unlike() {
		for _, wrong := range []head.Shape{
			{Kind: -1}, {Kind: 4}, {Fields: -1}, {Fields: 64}, {Map: 1}, {Fields: 2, Map: 4},
			{Kind: 1, Fields: 1}, {Kind: 1, Map: 2}, {Kind: 2, Fields: 64}, {Kind: 3, Fields: 1}, {Kind: 3, Map: 2},
		} {
			if n, e := x.Number(wrong); n != 0 || e != api.EARG || x.Len() != i {
				t.Errorf("Number(%v): %d, %d, Len() %d", wrong, n, e, x.Len())
			}
		}
		wantNumber(t, x, s, i, i+1)
	}
}

// P3.2
func TestShape(t *testing.T) {
	x := head.New()
	for _, n := range []int{-1, 0, 1} {
		wantNone(t, x, n)
	}
	for i, s := range unlike() {
		wantNone(t, x, i)
		wantNumber(t, x, s, i, i+1)
		for n, want := range unlike()[:i+1] {
			if got, e := x.Shape(n); got != want || e != api.OK {
				t.Errorf("Shape(%d): %v, %d, want %v", n, got, e, want)
			}
		}
		for _, n := range []int{-1, math.MinInt, i + 1, i + 2, 65536, math.MaxInt} {
			wantNone(t, x, n)
		}
	}
	if got := x.Len(); got != len(unlike()) {
		t.Errorf("Len() behind Shape: %d", got)
	}
}

// P3.2
func TestNewTablesShareNothing(t *testing.T) {
	x, y := head.New(), head.New()
	if x.Len() != 0 || y.Len() != 0 {
		t.Errorf("Len() of new ones: %d, %d", x.Len(), y.Len())
	}
	wantNumber(t, x, head.Shape{Kind: 1}, 0, 1)
	wantNone(t, y, 0)
	wantNumber(t, y, head.Shape{Kind: 3}, 0, 1)
	wantNumber(t, x, head.Shape{Kind: 3}, 1, 2)
	wantNumber(t, y, head.Shape{Kind: 1}, 1, 2)
}

// P3.2: the 65536th shape has a number, one more has none, those that are there keep theirs.
func TestFullTable(t *testing.T) {
	const most = 65536
	x := head.New()
	filler := func(n int) head.Shape { return head.Shape{Fields: 63, Map: uint64(n) << 40} }
	for n := range most {
		wantNumber(t, x, filler(n), n, n+1)
	}
	for range 2 {
		for _, s := range []head.Shape{{}, {Kind: 1}, {Kind: 2, Fields: 63}, filler(most)} {
			if n, e := x.Number(s); n != 0 || e != api.ELIMIT || x.Len() != most {
				t.Errorf("Number(%v) of a full table: %d, %d, Len() %d", s, n, e, x.Len())
			}
		}
		if n, e := x.Number(head.Shape{Kind: 4}); n != 0 || e != api.EARG {
			t.Errorf("Number of a wrong one, of a full table: %d, %d", n, e)
		}
		for _, n := range []int{0, 1, most / 2, most - 1} {
			wantNumber(t, x, filler(n), n, most)
			if s, e := x.Shape(n); s != filler(n) || e != api.OK {
				t.Errorf("Shape(%d) of a full table: %v, %d", n, s, e)
			}
		}
		wantNone(t, x, most)
	}
}
