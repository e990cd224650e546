package cycle_test

import (
	"math"
	"slices"
	"testing"

	"gantline/api"
	"gantline/cycle"
	"gantline/geom"
	"gantline/head"
)

// The phases, by the chapter's numbers.
const (
	off = iota
	roots
	marking
	sweeping
)

// stack is a stack's number, and the addresses that it holds.
type stack struct {
	id   int
	held []int64
}

// holder is whom a collection serves: its stacks are told in the order in which they stand here.
type holder struct {
	globals []int64
	stacks  []stack
}

func (h *holder) Globals() []int64 { return h.globals }

func (h *holder) Stacks() []int {
	var ids []int
	for _, s := range h.stacks {
		ids = append(ids, s.id)
	}
	return ids
}

func (h *holder) Stack(id int) []int64 {
	for _, s := range h.stacks {
		if s.id == id {
			return s.held
		}
	}
	return nil
}

// comes says that there is one stack more.
func (h *holder) comes(id int, held ...int64) {
	h.stacks = append(h.stacks, stack{id, held})
}

// goes says that a stack is there no more.
func (h *holder) goes(id int) {
	h.stacks = slices.DeleteFunc(h.stacks, func(s stack) bool { return s.id == id })
}

// all tells all that globals and stacks hold.
func (h *holder) all() []int64 {
	all := slices.Clone(h.globals)
	for _, s := range h.stacks {
		all = append(all, s.held...)
	}
	return all
}

// world is a heap, and whom its collections serve.
type world struct {
	t *testing.T
	c *cycle.Cycle
	h *holder
}

// begun is a world with nothing in it.
func begun(t *testing.T) *world { return sized(t, 16) }

// sized is one of so many spans.
func sized(t *testing.T, spans int) *world {
	t.Helper()
	c, e := cycle.New(spans)
	if e != api.OK {
		t.Fatalf("New(%d): %d", spans, e)
	}
	return &world{t, c, &holder{}}
}

// in is a world in a phase, with an object in it that nothing leads to, so that there is something to be swept.
func in(t *testing.T, phase int) *world {
	t.Helper()
	w := begun(t)
	w.take(64)
	w.to(phase)
	return w
}

// to goes on till the phase is this one.
func (w *world) to(phase int) {
	w.t.Helper()
	for range 10000 {
		if w.c.Phase() == phase {
			return
		}
		if w.c.Phase() == off {
			w.c.Start(w.h)
		} else {
			w.c.Step(w.h)
		}
	}
	w.t.Fatalf("the phase never is %d", phase)
}

// whole does a whole collection, from off, step by step.
func (w *world) whole() {
	w.t.Helper()
	w.to(roots)
	w.to(off)
}

func (w *world) take(words int) int64 {
	w.t.Helper()
	addr, e := w.c.Take(words)
	if e != api.OK {
		w.t.Fatalf("Take(%d): %d", words, e)
	}
	return addr
}

func (w *world) write(addr int64, at int, v int64) {
	w.t.Helper()
	if e := w.c.Arena().Write(addr, at, v); e != api.OK {
		w.t.Fatalf("Write(%d, %d, %d): %d", addr, at, v, e)
	}
}

// thing makes an object of a shape, with these words in its fields.
func (w *world) thing(s head.Shape, fields ...int64) int64 {
	w.t.Helper()
	addr := w.take(len(fields) + 1)
	number, e := w.c.Table().Number(s)
	if e != api.OK {
		w.t.Fatalf("Number(%v): %d", s, e)
	}
	word, e := head.Pack(head.Head{Words: len(fields) + 1, Kind: s.Kind, Shape: number})
	if e != api.OK {
		w.t.Fatalf("Pack: %d", e)
	}
	w.write(addr, 0, word)
	for k, v := range fields {
		w.write(addr, k+1, v)
	}
	return addr
}

// link makes an object whose three fields all hold addresses.
func (w *world) link(fields ...int64) int64 {
	w.t.Helper()
	all := make([]int64, 3)
	copy(all, fields)
	return w.thing(head.Shape{Fields: 3, Map: 7}, all...)
}

// leaders makes objects, each with another one of its own in a field, and tells both.
func (w *world) leaders(n int) (first, second []int64) {
	w.t.Helper()
	for range n {
		second = append(second, w.link())
	}
	for _, addr := range second {
		first = append(first, w.link(addr))
	}
	return first, second
}

func (w *world) wantPhase(want int) {
	w.t.Helper()
	if got := w.c.Phase(); got != want {
		w.t.Errorf("Phase(): %d, want %d", got, want)
	}
}

func (w *world) wantDone(want int) {
	w.t.Helper()
	if got := w.c.Done(); got != want {
		w.t.Errorf("Done(): %d, want %d", got, want)
	}
}

func (w *world) wantLeft(want int) {
	w.t.Helper()
	if got := w.c.Marker().Left(); got != want {
		w.t.Errorf("Left(): %d, want %d", got, want)
	}
}

func (w *world) wantWants(want bool) {
	w.t.Helper()
	if got := w.c.Wants(); got != want {
		w.t.Errorf("Wants(): %v with %d words", got, w.used())
	}
}

// wantStart wants Start to say so, and the phase to be this one then.
func (w *world) wantStart(want bool, phase int) {
	w.t.Helper()
	if got := w.c.Start(w.h); got != want {
		w.t.Errorf("Start(): %v", got)
	}
	w.wantPhase(phase)
}

// wantStep wants Step to say true, and the phase to be this one then.
func (w *world) wantStep(phase int) {
	w.t.Helper()
	if !w.c.Step(w.h) {
		w.t.Errorf("Step(): false")
	}
	w.wantPhase(phase)
}

// wantScan wants Scan to say so, and the stack to be black then, or not.
func (w *world) wantScan(id int, want, black bool) {
	w.t.Helper()
	phase := w.c.Phase()
	if got := w.c.Scan(w.h, id); got != want {
		w.t.Errorf("Scan(%d): %v", id, got)
	}
	if got := w.c.Black(id); got != black {
		w.t.Errorf("Black(%d) behind Scan: %v", id, got)
	}
	w.wantPhase(phase)
}

// numbers are those by which stacks are asked for.
func numbers() []int {
	return []int{math.MinInt, -1 << 32, -7, -2, -1, 0, 1, 2, 3, 4, 5, 6, 7, 8, 9, 10, 63, 64, 65, 1 << 32, math.MaxInt}
}

// wantBlack wants these stacks to be black, and no others of the numbers.
func (w *world) wantBlack(want ...int) {
	w.t.Helper()
	for _, id := range numbers() {
		if got := w.c.Black(id); got != slices.Contains(want, id) {
			w.t.Errorf("Black(%d): %v", id, got)
		}
	}
}

// wantMarked wants these to be marked, and no others.
func (w *world) wantMarked(want ...int64) {
	w.t.Helper()
	want = slices.Clone(want)
	slices.Sort(want)
	if got := w.places(w.c.Arena().Marked); !slices.Equal(got, want) {
		w.t.Errorf("marked: %v, want %v", got, want)
	}
}

// wantTaken wants these to be taken, and no others.
func (w *world) wantTaken(want ...int64) {
	w.t.Helper()
	want = slices.Clone(want)
	slices.Sort(want)
	if got := w.places(w.c.Arena().Taken); !slices.Equal(got, want) {
		w.t.Errorf("taken: %v, want %v", got, want)
	}
}

// places tells the addresses that a span's map names, of all spans.
func (w *world) places(maps func(span int) uint64) []int64 {
	var all []int64
	for span := range w.c.Arena().Spans() {
		class := w.c.Arena().Class(span)
		for place := range geom.Places(class) {
			if maps(span)>>place&1 == 1 {
				all = append(all, geom.Addr(span, place, class))
			}
		}
	}
	return all
}

// wantGrey wants these to be grey, in this order: each is looked at, and its first field's object is marked then, and not earlier.
func (w *world) wantGrey(first, second []int64) {
	w.t.Helper()
	w.wantLeft(len(first))
	for n, addr := range second {
		if w.isMarked(addr) {
			w.t.Errorf("what number %d leads to is marked too early", n)
		}
		if !w.isMarked(first[n]) || !w.c.Marker().Step() || !w.isMarked(addr) {
			w.t.Errorf("number %d is not grey in its turn", n)
		}
	}
}

func (w *world) isMarked(addr int64) bool {
	return slices.Contains(w.places(w.c.Arena().Marked), addr)
}

// used tells the words that are taken.
func (w *world) used() int {
	used := 0
	for _, addr := range w.places(w.c.Arena().Taken) {
		used += geom.Words(w.c.Arena().Class(geom.Span(addr)))
	}
	return used
}

// picture tells all that can be told.
func (w *world) picture() []int64 {
	a := w.c.Arena()
	all := []int64{int64(w.c.Phase()), int64(w.c.Done()), int64(w.c.Marker().Left()), int64(w.c.Table().Len())}
	for _, id := range numbers() {
		if w.c.Black(id) {
			all = append(all, int64(id))
		}
	}
	if w.c.Wants() {
		all = append(all, 1)
	}
	for span := range a.Spans() {
		all = append(all, int64(a.Class(span)), int64(a.Taken(span)), int64(a.Marked(span)))
	}
	for _, addr := range w.places(a.Taken) {
		for at := range geom.Words(a.Class(geom.Span(addr))) {
			v, _ := a.Read(addr, at)
			all = append(all, v)
		}
	}
	return all
}

// wantSame wants a call to change nothing that can be told.
func (w *world) wantSame(what string, call func()) {
	w.t.Helper()
	before := w.picture()
	call()
	if !slices.Equal(w.picture(), before) {
		w.t.Errorf("%s in phase %d changes something", what, w.c.Phase())
	}
}

// nowhere are addresses at which no place of a heap of up to 16 spans begins, whatever it holds.
func nowhere() []int64 {
	return []int64{
		0, 1, 2, 62, 63, 65, 16 * 64, 16*64 + 2, 512 * 64, 1 << 32, 1<<32 + 64, math.MaxInt64, math.MaxInt64 - 63,
		-1, -2, -64, -1 << 32, math.MinInt64, math.MinInt64 + 64,
	}
}

// dice tells numbers that look like chance, and are always the same.
type dice uint64

func (d *dice) below(n int) int {
	*d = *d*6364136223846793005 + 1442695040888963407
	return int(uint64(*d) >> 33 % uint64(n))
}
