package mark_test

import (
	"math"
	"slices"
	"testing"

	"gantline/api"
	"gantline/arena"
	"gantline/geom"
	"gantline/head"
	"gantline/mark"
)

// world is an arena and a table, and a marker over them.
type world struct {
	t     *testing.T
	arena *arena.Arena
	table *head.Table
	mark  *mark.Marker
}

// begun is a world with nothing in it.
func begun(t *testing.T) *world {
	t.Helper()
	a, e := arena.New(16)
	if e != api.OK {
		t.Fatalf("arena.New(16): %d", e)
	}
	table := head.New()
	return &world{t, a, table, mark.New(a, table)}
}

// take takes a place of a class, in the first span that has room.
func (w *world) take(class int) int64 {
	w.t.Helper()
	for span := 1; span < w.arena.Spans(); span++ {
		w.arena.Set(span, class)
		if w.arena.Class(span) != class {
			continue
		}
		if addr, e := w.arena.Take(span); e == api.OK {
			return addr
		}
	}
	w.t.Fatalf("no room for class %d", class)
	return 0
}

// write writes a word of a place.
func (w *world) write(addr int64, at int, v int64) {
	w.t.Helper()
	if e := w.arena.Write(addr, at, v); e != api.OK {
		w.t.Fatalf("Write(%d, %d, %d): %d", addr, at, v, e)
	}
}

// number is a shape's number.
func (w *world) number(s head.Shape) int {
	w.t.Helper()
	n, e := w.table.Number(s)
	if e != api.OK {
		w.t.Fatalf("Number(%v): %d", s, e)
	}
	return n
}

// head makes a place's first word a head.
func (w *world) head(addr int64, words, kind, shape int) {
	w.t.Helper()
	word, e := head.Pack(head.Head{Words: words, Kind: kind, Shape: shape})
	if e != api.OK {
		w.t.Fatalf("Pack(%d, %d, %d): %d", words, kind, shape, e)
	}
	w.write(addr, 0, word)
}

// thing makes an object of a shape, with these words in its fields, in the least place that has room for it.
func (w *world) thing(s head.Shape, fields ...int64) int64 {
	w.t.Helper()
	words := len(fields) + 1
	addr := w.take(geom.Class(words))
	w.head(addr, words, s.Kind, w.number(s))
	for k, v := range fields {
		w.write(addr, k+1, v)
	}
	return addr
}

// link makes an object whose three fields all hold addresses.
func (w *world) link(fields ...int64) int64 {
	w.t.Helper()
	all := make([]int64, 3)
	copy(all, fields)
	return w.thing(head.Shape{Fields: 3, Map: 7}, all...)
}

// wantFields wants these addresses in an object, each time it is asked.
func (w *world) wantFields(addr int64, want ...int64) {
	w.t.Helper()
	for range 2 {
		if got := w.mark.Fields(addr); !slices.Equal(got, want) {
			w.t.Errorf("Fields(%d): %v, want %v", addr, got, want)
		}
	}
}

// wantReach wants these addresses to be come to.
func (w *world) wantReach(roots []int64, want ...int64) {
	w.t.Helper()
	if got := w.mark.Reach(roots...); !slices.Equal(got, want) {
		w.t.Errorf("Reach(%v): %v, want %v", roots, got, want)
	}
}

// wantShade wants Shade to say so, and so many to be grey then.
func (w *world) wantShade(addr int64, want bool, left int) {
	w.t.Helper()
	if got := w.mark.Shade(addr); got != want {
		w.t.Errorf("Shade(%d): %v", addr, got)
	}
	w.wantLeft(left)
}

// wantStep wants Step to say so, and so many to be grey then.
func (w *world) wantStep(want bool, left int) {
	w.t.Helper()
	if got := w.mark.Step(); got != want {
		w.t.Errorf("Step(): %v", got)
	}
	w.wantLeft(left)
}

func (w *world) wantLeft(want int) {
	w.t.Helper()
	if got := w.mark.Left(); got != want {
		w.t.Errorf("Left(): %d, want %d", got, want)
	}
}

// wantMarked wants these to be marked, and no others.
func (w *world) wantMarked(want ...int64) {
	w.t.Helper()
	want = slices.Clone(want)
	slices.Sort(want)
	if got := w.marked(); !slices.Equal(got, want) {
		w.t.Errorf("marked: %v, want %v", got, want)
	}
}

// marked tells which places are marked.
func (w *world) marked() []int64 {
	var all []int64
	for span := range w.arena.Spans() {
		class := w.arena.Class(span)
		for place := range geom.Places(class) {
			if w.arena.Marked(span)>>place&1 == 1 {
				all = append(all, geom.Addr(span, place, class))
			}
		}
	}
	return all
}

// picture tells all that an arena and a table are.
func (w *world) picture() []int64 {
	all := []int64{int64(w.table.Len())}
	for span := range w.arena.Spans() {
		class := w.arena.Class(span)
		all = append(all, int64(class), int64(w.arena.Taken(span)), int64(w.arena.Marked(span)))
		for place := range geom.Places(class) {
			for at := range geom.Words(class) {
				v, e := w.arena.Read(geom.Addr(span, place, class), at)
				all = append(all, v, int64(e))
			}
		}
	}
	return all
}

// wantSame wants a call to change nothing that can be told, and the grey ones to be as many as they were.
func (w *world) wantSame(what string, call func()) {
	w.t.Helper()
	before, left := w.picture(), w.mark.Left()
	call()
	if !slices.Equal(w.picture(), before) || w.mark.Left() != left {
		w.t.Errorf("%s changes something", what)
	}
}

// nowhere are addresses at which no place of an arena of 16 spans begins, whatever it holds.
func nowhere() []int64 {
	return []int64{
		0, 1, 2, 62, 63, 65, 16 * 64, 16*64 + 2, 512 * 64, 1 << 32, 1<<32 + 64, math.MaxInt64, math.MaxInt64 - 63,
		-1, -2, -64, -1 << 32, math.MinInt64, math.MinInt64 + 64,
	}
}
