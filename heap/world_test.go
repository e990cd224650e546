package heap_test

import (
	"math"
	"slices"
	"testing"

	"gantline/api"
	"gantline/geom"
	"gantline/head"
	"gantline/heap"
)

// The phases, by chapter 8's numbers.
const (
	off = iota
	roots
	marking
	sweeping
	phases // how many there are
)

// The kinds, by chapter 3's numbers.
const (
	plain = iota
	array
	closure
	channel
)

// The yard's shapes.
const (
	pair      = iota // a number and an address
	twin             // the same once more
	bare             // no fields
	wide             // 63 fields, every second one an address
	numbers          // an array of numbers
	addresses        // an array of addresses
	caught           // a closure of a number and an address
	pipe             // a channel of numbers
	pipes            // a channel of addresses
	shapes           // how many there are
)

func yard() []head.Shape {
	return []head.Shape{
		pair:      {Fields: 2, Map: 2},
		twin:      {Fields: 2, Map: 2},
		bare:      {},
		wide:      {Fields: 63, Map: 0x5555555555555555 >> 1},
		numbers:   {Kind: array},
		addresses: {Kind: array, Map: 1},
		caught:    {Kind: closure, Fields: 2, Map: 2},
		pipe:      {Kind: channel},
		pipes:     {Kind: channel, Map: 1},
	}
}

// numberOf tells the number that a shape of the yard has in the table: the twin has none of its own.
func numberOf(shape int) int {
	if shape >= twin {
		return shape - 1
	}
	return shape
}

// wrongShapes are some that are not Good.
func wrongShapes() []head.Shape {
	return []head.Shape{
		{Kind: 4}, {Kind: -1}, {Kind: math.MaxInt}, {Kind: math.MinInt},
		{Fields: 64}, {Fields: -1}, {Fields: math.MaxInt}, {Fields: math.MinInt},
		{Map: 1}, {Fields: 2, Map: 4}, {Fields: 63, Map: 1 << 63},
		{Kind: array, Fields: 1}, {Kind: array, Map: 2}, {Kind: array, Fields: -1},
		{Kind: closure, Fields: 64}, {Kind: closure, Fields: 1, Map: 2},
		{Kind: channel, Fields: 4}, {Kind: channel, Map: 3},
	}
}

// stack is a stack's number, and the addresses that it holds.
type stack struct {
	id   int
	held []int64
}

// holder is whom collections serve. It counts how often it was asked for its globals: as often as one began.
type holder struct {
	globals []int64
	stacks  []stack
	begun   int
}

func (r *holder) Globals() []int64 {
	r.begun++
	return r.globals
}

func (r *holder) Stacks() []int {
	var ids []int
	for _, s := range r.stacks {
		ids = append(ids, s.id)
	}
	return ids
}

func (r *holder) Stack(id int) []int64 {
	for _, s := range r.stacks {
		if s.id == id {
			return s.held
		}
	}
	return nil
}

// world is a heap, and whom its collections serve.
type world struct {
	t *testing.T
	h *heap.Heap
	r *holder
}

// begun is a world of the yard's shapes with nothing in it.
func begun(t *testing.T, spans int) *world {
	t.Helper()
	return &world{t, created(t, spans, yard()), &holder{}}
}

// created is a heap, which must be.
func created(t *testing.T, spans int, list []head.Shape) *heap.Heap {
	t.Helper()
	h, e := heap.New(spans, list)
	if e != api.OK || h == nil {
		t.Fatalf("New(%d, %d shapes): %d", spans, len(list), e)
	}
	return h
}

// to goes on till the phase is this one.
func (w *world) to(phase int) {
	w.t.Helper()
	c := w.h.Cycle()
	for range 10000 {
		if c.Phase() == phase {
			return
		}
		if c.Phase() == off {
			c.Start(w.r)
		} else {
			c.Step(w.r)
		}
	}
	w.t.Fatalf("the phase never is %d", phase)
}

// make makes an object, which must be.
func (w *world) make(shape, words int) int64 {
	w.t.Helper()
	addr, e := w.h.Make(shape, words, w.r)
	if e != api.OK || addr == 0 {
		w.t.Fatalf("Make(%d, %d): %d, %d", shape, words, addr, e)
	}
	return addr
}

// keep makes one, and it is held from then on.
func (w *world) keep(shape, words int) int64 {
	w.t.Helper()
	addr := w.make(shape, words)
	w.r.globals = append(w.r.globals, addr)
	return addr
}

// word reads any word of a place, its head too.
func (w *world) word(addr int64, at int) int64 {
	w.t.Helper()
	v, e := w.h.Cycle().Arena().Read(addr, at)
	if e != api.OK {
		w.t.Fatalf("Read(%d, %d): %d", addr, at, e)
	}
	return v
}

// lay writes any word of a place, its head too, past the heap's own calls.
func (w *world) lay(addr int64, at int, v int64) {
	w.t.Helper()
	if e := w.h.Cycle().Arena().Write(addr, at, v); e != api.OK {
		w.t.Fatalf("Write(%d, %d): %d", addr, at, e)
	}
}

// packed is a head, which must be.
func packed(t *testing.T, words, kind, number int) int64 {
	t.Helper()
	word, e := head.Pack(head.Head{Words: words, Kind: kind, Shape: number})
	if e != api.OK {
		t.Fatalf("Pack(%d, %d, %d): %d", words, kind, number, e)
	}
	return word
}

// room tells how many words an object's place has.
func (w *world) room(addr int64) int {
	return geom.Words(w.h.Cycle().Arena().Class(geom.Span(addr)))
}

// places tells the addresses that a span's map names, of all spans.
func (w *world) places(maps func(span int) uint64) []int64 {
	var all []int64
	a := w.h.Cycle().Arena()
	for span := range a.Spans() {
		class := a.Class(span)
		for place := range geom.Places(class) {
			if maps(span)>>place&1 == 1 {
				all = append(all, geom.Addr(span, place, class))
			}
		}
	}
	return all
}

func (w *world) marked() []int64 { return w.places(w.h.Cycle().Arena().Marked) }

func (w *world) taken() []int64 { return w.places(w.h.Cycle().Arena().Taken) }

// sorted is a list of addresses, rising.
func sorted(list []int64) []int64 {
	list = slices.Clone(list)
	slices.Sort(list)
	return list
}

// wantMarked wants these to be marked, and no others.
func (w *world) wantMarked(where string, want ...int64) {
	w.t.Helper()
	if got := w.marked(); !slices.Equal(got, sorted(want)) {
		w.t.Errorf("%s: marked: %v, want %v", where, got, sorted(want))
	}
}

// wantTaken wants these to be taken, and no others.
func (w *world) wantTaken(where string, want ...int64) {
	w.t.Helper()
	if got := w.taken(); !slices.Equal(got, sorted(want)) {
		w.t.Errorf("%s: taken: %v, want %v", where, got, sorted(want))
	}
}

func (w *world) wantLeft(where string, want int) {
	w.t.Helper()
	if got := w.h.Cycle().Marker().Left(); got != want {
		w.t.Errorf("%s: %d are grey, want %d", where, got, want)
	}
}

// wantCounts wants so many forced, and so many done.
func (w *world) wantCounts(where string, forced, done int) {
	w.t.Helper()
	if w.h.Forced() != forced || w.h.Cycle().Done() != done {
		w.t.Errorf("%s: Forced() %d, Done() %d, want %d, %d", where, w.h.Forced(), w.h.Cycle().Done(), forced, done)
	}
}

// stackNumbers are those by which stacks are asked for.
func stackNumbers() []int {
	return []int{math.MinInt, math.MinInt + 1, -2, -1, 0, 1, 2, 3, 4, 63, 64, 65, 1 << 32, 1<<32 + 1, math.MaxInt}
}

// picture tells all that can be told.
func (w *world) picture() []int64 {
	c := w.h.Cycle()
	a := c.Arena()
	all := []int64{int64(c.Phase()), int64(c.Done()), int64(c.Marker().Left()), int64(w.h.Forced()), int64(w.r.begun)}
	for n := range c.Table().Len() {
		s, _ := c.Table().Shape(n)
		all = append(all, int64(s.Kind), int64(s.Fields), int64(s.Map))
	}
	for _, id := range stackNumbers() {
		if c.Black(id) {
			all = append(all, int64(id))
		}
	}
	if c.Wants() {
		all = append(all, 1)
	}
	for span := range a.Spans() {
		all = append(all, int64(a.Class(span)), int64(a.Taken(span)), int64(a.Marked(span)))
	}
	for _, addr := range w.taken() {
		for at := range w.room(addr) {
			all = append(all, w.word(addr, at))
		}
	}
	return all
}

// wantSame wants a call to change nothing that can be told.
func (w *world) wantSame(where string, call func()) {
	w.t.Helper()
	before := w.picture()
	call()
	if !slices.Equal(w.picture(), before) {
		w.t.Errorf("%s in phase %d changes something", where, w.h.Cycle().Phase())
	}
}

// nowhere are addresses at which no place of a heap of up to 64 spans begins, whatever it holds.
func nowhere() []int64 {
	return []int64{
		0, 1, 2, 32, 62, 63, 65, 127, 64 * 64, 64*64 + 2, 511 * 64, 512 * 64, 1 << 31, 1 << 32, 1<<32 + 64, 1 << 40,
		math.MaxInt64, math.MaxInt64 - 63, -1, -2, -63, -64, -128, -1 << 32, math.MinInt64, math.MinInt64 + 64,
	}
}

// wrongInts are numbers at which there is nothing, of a list of so many.
func wrongInts(count int) []int {
	return []int{-1, -2, -64, math.MinInt, math.MinInt + 1, -1 << 32, count, count + 1, count + 64, 1 << 31, 1 << 32, 1<<32 + 1, math.MaxInt - 1, math.MaxInt}
}
