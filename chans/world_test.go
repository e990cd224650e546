package chans_test

import (
	"math"
	"slices"
	"testing"

	"gantline/api"
	"gantline/chans"
	"gantline/geom"
	"gantline/head"
	"gantline/heap"
)

// The phases, by chapter 8's numbers.
const (
	off = iota
	roots
	marking
	sweeping
	phases // how many there are
)

// The yard's shapes.
const (
	pair      = iota // a number and an address
	pipe             // a channel of numbers
	lead             // one address
	pipes            // a channel of addresses
	numbers          // an array of numbers
	addresses        // one of addresses
	caught           // a closure of a number and an address
	shapes           // how many there are
)

func yard() []head.Shape {
	return []head.Shape{
		pair:      {Fields: 2, Map: 2},
		pipe:      {Kind: 3},
		lead:      {Fields: 1, Map: 1},
		pipes:     {Kind: 3, Map: 1},
		numbers:   {Kind: 1},
		addresses: {Kind: 1, Map: 1},
		caught:    {Kind: 2, Fields: 2, Map: 2},
	}
}

// others are the shapes that are no channel's.
func others() []int { return []int{pair, lead, numbers, addresses, caught} }

// The fields of a channel, by the chapter's numbers.
const (
	roomAt = iota
	countAt
	firstAt
	closedAt
	thingsAt
)

// stack is a stack's number, and the addresses that it holds.
type stack struct {
	id   int
	held []int64
}

// holder is whom collections serve. It counts how often it was asked for its globals: as often as one began.
type holder struct {
	globals []int64
	stacks  []stack
	begun   int
}

func (r *holder) Globals() []int64 {
	r.begun++
	return r.globals
}

func (r *holder) Stacks() []int {
	var ids []int
	for _, s := range r.stacks {
		ids = append(ids, s.id)
	}
	return ids
}

func (r *holder) Stack(id int) []int64 {
	for _, s := range r.stacks {
		if s.id == id {
			return s.held
		}
	}
	return nil
}

// world is a heap of the yard's shapes, and whom its collections serve.
type world struct {
	t *testing.T
	h *heap.Heap
	r *holder
}

func begun(t *testing.T, spans int) *world {
	t.Helper()
	h, e := heap.New(spans, yard())
	if e != api.OK {
		t.Fatalf("New(%d): %d", spans, e)
	}
	return &world{t, h, &holder{}}
}

// to goes on till the phase is this one.
func (w *world) to(phase int) {
	w.t.Helper()
	c := w.h.Cycle()
	for range 10000 {
		if c.Phase() == phase {
			return
		}
		if !c.Start(w.r) {
			c.Step(w.r)
		}
	}
	w.t.Fatalf("the phase never is %d", phase)
}

// object makes one by the heap, which must be.
func (w *world) object(shape, words int) int64 {
	w.t.Helper()
	addr, e := w.h.Make(shape, words, w.r)
	if e != api.OK || addr == 0 {
		w.t.Fatalf("heap's Make(%d, %d): %d, %d", shape, words, addr, e)
	}
	return addr
}

// channel makes one, which must be.
func (w *world) channel(shape int, room int64) int64 {
	w.t.Helper()
	addr, trap, e := chans.Make(w.h, shape, room, w.r)
	if addr == 0 || trap != api.TrapNone || e != api.OK {
		w.t.Fatalf("Make(%d, %d): %d, %d, %d", shape, room, addr, trap, e)
	}
	return addr
}

// keep lets it be held from then on.
func (w *world) keep(addr int64) int64 {
	w.r.globals = append(w.r.globals, addr)
	return addr
}

// word reads any word of a place, its head too.
func (w *world) word(addr int64, at int) int64 {
	w.t.Helper()
	v, e := w.h.Cycle().Arena().Read(addr, at)
	if e != api.OK {
		w.t.Fatalf("Read(%d, %d): %d", addr, at, e)
	}
	return v
}

// lay writes any word of a place, its head too, past the calls.
func (w *world) lay(addr int64, at int, v int64) {
	w.t.Helper()
	if e := w.h.Cycle().Arena().Write(addr, at, v); e != api.OK {
		w.t.Fatalf("Write(%d, %d): %d", addr, at, e)
	}
}

// size tells how many words an object's place has.
func (w *world) size(addr int64) int {
	return geom.Words(w.h.Cycle().Arena().Class(geom.Span(addr)))
}

// places tells the addresses that the spans' maps name.
func (w *world) places(maps func(span int) uint64) []int64 {
	var all []int64
	a := w.h.Cycle().Arena()
	for span := range a.Spans() {
		class := a.Class(span)
		for place := range geom.Places(class) {
			if maps(span)>>place&1 == 1 {
				all = append(all, geom.Addr(span, place, class))
			}
		}
	}
	return all
}

func (w *world) marked() []int64 { return w.places(w.h.Cycle().Arena().Marked) }

func (w *world) taken() []int64 { return w.places(w.h.Cycle().Arena().Taken) }

// wantList wants these addresses, in whatever order they are named.
func (w *world) wantList(where string, got []int64, want ...int64) {
	w.t.Helper()
	want = slices.Sorted(slices.Values(want))
	if !slices.Equal(got, want) {
		w.t.Errorf("%s: %v, want %v", where, got, want)
	}
}

// wantCounts wants so many collections forced, and so many done.
func (w *world) wantCounts(where string, forced, done int) {
	w.t.Helper()
	if w.h.Forced() != forced || w.h.Cycle().Done() != done {
		w.t.Errorf("%s: Forced() %d, Done() %d, want %d, %d", where, w.h.Forced(), w.h.Cycle().Done(), forced, done)
	}
}

// stackNumbers are those by which stacks are asked for.
func stackNumbers() []int {
	return []int{math.MinInt, -2, -1, 0, 1, 2, 3, 63, 64, 1 << 32, math.MaxInt}
}

// picture tells all that can be told.
func (w *world) picture() []int64 {
	c := w.h.Cycle()
	a := c.Arena()
	all := []int64{int64(c.Phase()), int64(c.Done()), int64(c.Marker().Left()), int64(w.h.Forced()), int64(w.r.begun), int64(c.Table().Len())}
	for _, id := range stackNumbers() {
		if c.Black(id) {
			all = append(all, int64(id))
		}
	}
	for span := range a.Spans() {
		all = append(all, int64(a.Class(span)), int64(a.Taken(span)), int64(a.Marked(span)))
	}
	for _, addr := range w.taken() {
		for at := range w.size(addr) {
			all = append(all, w.word(addr, at))
		}
	}
	return all
}

// wantSame wants calls to change nothing that can be told.
func (w *world) wantSame(where string, calls func()) {
	w.t.Helper()
	before := w.picture()
	calls()
	if !slices.Equal(w.picture(), before) {
		w.t.Errorf("%s in phase %d: something is changed", where, w.h.Cycle().Phase())
	}
}

// wantFields wants a channel with these things in its ring, the first one at this place, and 0 in all other places.
func (w *world) wantFields(where string, addr, room, first int64, closed bool, things []int64) {
	w.t.Helper()
	want := make([]int64, thingsAt+room)
	want[roomAt], want[countAt], want[firstAt] = room, int64(len(things)), first
	if closed {
		want[closedAt] = 1
	}
	for n, v := range things {
		want[thingsAt+(first+int64(n))%room] = v
	}
	for field, v := range want {
		if got := w.word(addr, 1+field); got != v {
			w.t.Errorf("%s: field %d of %d is %d, want %d", where, field, addr, got, v)
		}
	}
	for at := 1 + len(want); at < w.size(addr); at++ {
		if got := w.word(addr, at); got != 0 {
			w.t.Errorf("%s: the word %d of %d, behind it, is %d", where, at, addr, got)
		}
	}
}

// wantTold wants Room, Count and Closed to say this.
func (w *world) wantTold(where string, addr, room, count int64, closed bool) {
	w.t.Helper()
	gotRoom, gotCount, gotClosed := chans.Room(w.h, addr), chans.Count(w.h, addr), chans.Closed(w.h, addr)
	if gotRoom != room || gotCount != count || gotClosed != closed {
		w.t.Errorf("%s: Room, Count, Closed(%d): %d, %d, %v, want %d, %d, %v", where, addr, gotRoom, gotCount, gotClosed, room, count, closed)
	}
}

func (w *world) wantIs(where string, addr int64, numbers, addresses bool) {
	w.t.Helper()
	if a, b := chans.Is(w.h, addr, false), chans.Is(w.h, addr, true); a != numbers || b != addresses {
		w.t.Errorf("%s: Is(%d): %v of numbers, %v of addresses, want %v, %v", where, addr, a, b, numbers, addresses)
	}
}

func (w *world) wantPush(where string, addr, v int64, id int, want bool) {
	w.t.Helper()
	if got := chans.Push(w.h, addr, v, id); got != want {
		w.t.Errorf("%s: Push(%d, %d, %d): %v", where, addr, v, id, got)
	}
}

func (w *world) wantPop(where string, addr, want int64) {
	w.t.Helper()
	if v, ok := chans.Pop(w.h, addr); v != want || !ok {
		w.t.Errorf("%s: Pop(%d): %d, %v, want %d", where, addr, v, ok, want)
	}
}

func (w *world) wantNoPop(where string, addr int64) {
	w.t.Helper()
	if v, ok := chans.Pop(w.h, addr); v != 0 || ok {
		w.t.Errorf("%s: Pop(%d): %d, %v", where, addr, v, ok)
	}
}

func (w *world) wantClose(where string, addr int64, want bool) {
	w.t.Helper()
	if got := chans.Close(w.h, addr); got != want {
		w.t.Errorf("%s: Close(%d): %v", where, addr, got)
	}
}

// wantNone wants that there is no channel there, by all calls, and that they change nothing.
func (w *world) wantNone(where string, addr int64) {
	w.t.Helper()
	w.wantSame(where, func() {
		w.t.Helper()
		w.wantIs(where, addr, false, false)
		w.wantTold(where, addr, 0, 0, true)
		for _, id := range []int{-1, 1, 2} {
			w.wantPush(where, addr, 64, id, false)
		}
		w.wantNoPop(where, addr)
		w.wantClose(where, addr, false)
		w.wantTold(where, addr, 0, 0, true)
	})
}

// nowhere are addresses at which no place of a heap of up to 64 spans begins, whatever it holds.
func nowhere() []int64 {
	return []int64{
		0, 1, 2, 32, 62, 63, 65, 127, 64 * 64, 64*64 + 2, 511 * 64, 512 * 64, 1 << 31, 1 << 32, 1<<32 + 64, 1 << 40,
		math.MaxInt64, math.MaxInt64 - 63, -1, -2, -63, -64, -128, -1 << 32, math.MinInt64, math.MinInt64 + 64,
	}
}

// rooms are those that the tests of rings take: none, the least ones, some between, the greatest.
func rooms() []int64 { return []int64{0, 1, 2, 3, 4, 7, 27, 28, 58, 59} }

// edges are numbers that a thing may be.
func edges() []int64 {
	return []int64{0, 1, -1, 7, 64, 1 << 32, 1<<62 - 1, 1 << 62, -1 << 62, -1<<62 - 1, math.MaxInt64, math.MinInt64}
}
