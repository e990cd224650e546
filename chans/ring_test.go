package chans_test

import (
	"math"
	"slices"
	"testing"

	"gantline/api"
	"gantline/chans"
	"gantline/heap"
)

// The chapter's example.
func TestExample(t *testing.T) {
	w := begun(t, 8)
	addr := w.channel(pipe, 1)
	w.wantPush("example", addr, 7, 1, true)
	w.wantPush("example", addr, 8, 1, false)
	w.wantPop("example", addr, 7)
}

// ring is a channel, and what should be in it.
type ring struct {
	*world
	addr, room, first int64
	things            []int64
	next              int64 // the thing that comes next: no two are the same
}

func (w *world) ring(shape int, room int64) *ring {
	w.t.Helper()
	return &ring{world: w, addr: w.channel(shape, room), room: room, next: 1000}
}

// push puts a new thing in, which must be.
func (r *ring) push() {
	r.t.Helper()
	r.wantPush("ring", r.addr, r.next, 1, true)
	r.things = append(r.things, r.next)
	r.next++
	r.want()
}

// pop takes the first one out, which must be: its place is 0 then.
func (r *ring) pop() {
	r.t.Helper()
	r.wantPop("ring", r.addr, r.things[0])
	r.things = r.things[1:]
	r.first = (r.first + 1) % r.room
	r.want()
}

func (r *ring) want() {
	r.t.Helper()
	r.wantTold("ring", r.addr, r.room, int64(len(r.things)), false)
	r.wantFields("ring", r.addr, r.room, r.first, false, r.things)
}

// P15.1: with each number of things in it, the ring goes round more than twice: what comes out is what went in, in order, each once.
func TestRingRound(t *testing.T) {
	for _, shape := range []int{pipe, pipes} {
		for _, room := range rooms() {
			for level := range room {
				r := begun(t, 8).ring(shape, room)
				for range level {
					r.push()
				}
				for range 2*room + 3 {
					r.push()
					r.pop()
				}
				for range level {
					r.pop()
				}
				r.wantNoPop("empty", r.addr)
			}
		}
	}
}

// P15.1: filled and emptied from each place on: a full one takes no more, an empty one has none, and nothing is changed then.
func TestRingFilled(t *testing.T) {
	for _, shape := range []int{pipe, pipes} {
		for _, room := range rooms() {
			r := begun(t, 8).ring(shape, room)
			for range min(room, 8) + 1 {
				r.wantNothingOut("empty")
				for range room {
					r.push()
				}
				r.wantNothingIn("full")
				for range room {
					r.pop()
				}
				if room > 0 {
					r.push()
					r.pop()
				}
			}
			r.wantNothingOut("empty again")
		}
	}
}

// wantNothingIn wants no push to do anything, in each phase.
func (r *ring) wantNothingIn(where string) {
	r.t.Helper()
	r.eachPhase(where, func() {
		r.t.Helper()
		for n, v := range edges() {
			r.wantPush(where, r.addr, v, n-1, false)
		}
	})
}

// wantNothingOut wants no pop to do anything, in each phase.
func (r *ring) wantNothingOut(where string) {
	r.t.Helper()
	r.eachPhase(where, func() {
		r.t.Helper()
		r.wantNoPop(where, r.addr)
		r.wantNoPop(where, r.addr)
	})
}

// eachPhase wants calls to change nothing, in each phase of a collection that keeps the channel.
func (r *ring) eachPhase(where string, calls func()) {
	r.t.Helper()
	r.r.globals = []int64{r.addr}
	for n := range phases + 1 {
		r.to(n % phases)
		r.wantSame(where, calls)
	}
}

// P15.1: a channel of no room takes nothing, and has nothing, closed or not.
func TestRingOfNoRoom(t *testing.T) {
	for _, shape := range []int{pipe, pipes} {
		r := begun(t, 8).ring(shape, 0)
		r.wantNothingIn("no room")
		r.wantNothingOut("no room")
		r.wantClose("no room", r.addr, true)
		r.wantNothingIn("closed")
		r.wantNothingOut("closed")
		r.wantTold("closed", r.addr, 0, 0, true)
	}
}

// P15.1: any number may be a thing, 0 too, and comes out as it went in, of both kinds of elements, in each phase.
func TestRingOfAnyNumber(t *testing.T) {
	for _, shape := range []int{pipe, pipes} {
		for phase := range phases {
			w := begun(t, 8)
			addr := w.keep(w.channel(shape, 5))
			w.to(phase)
			for n, v := range edges() {
				for _, id := range []int{math.MinInt, -1, 0, 1, math.MaxInt} {
					w.wantPush("any", addr, v, id, true)
				}
				w.wantPush("any", addr, v, n, false)
				for range 5 {
					w.wantPop("any", addr, v)
				}
			}
			w.wantNoPop("any", addr)
		}
	}
}

// P15.1: a place is 0 behind a Pop, whatever was in it; the others stay.
func TestPopLeavesNought(t *testing.T) {
	for _, shape := range []int{pipe, pipes} {
		w := begun(t, 8)
		addr := w.channel(shape, 3)
		for _, v := range []int64{-7, 8, math.MaxInt64} {
			w.wantPush("three", addr, v, 1, true)
		}
		w.wantFields("three", addr, 3, 0, false, []int64{-7, 8, math.MaxInt64})
		w.wantPop("three", addr, -7)
		w.wantFields("two", addr, 3, 1, false, []int64{8, math.MaxInt64})
		w.wantPop("two", addr, 8)
		w.wantFields("one", addr, 3, 2, false, []int64{math.MaxInt64})
		w.wantPush("one", addr, 5, 1, true)
		w.wantFields("round", addr, 3, 2, false, []int64{math.MaxInt64, 5})
		w.wantPop("round", addr, math.MaxInt64)
		w.wantFields("round", addr, 3, 0, false, []int64{5})
		w.wantPop("round", addr, 5)
		w.wantFields("none", addr, 3, 1, false, nil)
	}
}

// P15.1: channels of one heap are apart: what is done with one leaves the others as they are.
func TestChannelsAreApart(t *testing.T) {
	w := begun(t, 16)
	var all []*ring
	for _, room := range []int64{3, 0, 3, 2, 59, 3} {
		all = append(all, w.ring(pipe, room), w.ring(pipes, room))
	}
	for n, r := range all {
		r.next += int64(n) * 1000
	}
	for n := range 400 {
		r := all[n*7%len(all)]
		if int64(len(r.things)) < r.room && n*n%5 < 3 {
			r.push()
		} else if len(r.things) > 0 {
			r.pop()
		}
		for _, other := range all {
			other.want()
		}
	}
	w.wantClose("one", all[0].addr, true)
	for _, other := range all[1:] {
		other.want()
	}
}

// R5: heaps are apart, too, and two that are told the same say the same.
func TestHeapsAreApart(t *testing.T) {
	v, w, idle := begun(t, 8), begun(t, 8), begun(t, 8)
	a, b, c := v.channel(pipe, 2), w.channel(pipe, 2), idle.channel(pipe, 2)
	if a != b || b != c {
		t.Fatalf("Make: %d, %d, %d", a, b, c)
	}
	for n := range int64(50) {
		for _, x := range []*world{v, w} {
			chans.Push(x.h, a, n, 1)
			if n%3 > 0 {
				chans.Pop(x.h, a)
			}
		}
		if !slices.Equal(v.picture(), w.picture()) {
			t.Fatalf("step %d: they are not the same", n)
		}
	}
	v.wantClose("one", a, true)
	w.wantClose("the other", b, true)
	idle.wantNew("idle", c, pipe, 2)
}

// P15.1: other objects of the heap stay as they are.
func TestOthersStay(t *testing.T) {
	w := begun(t, 16)
	before, addr, after := w.object(numbers, 8), w.channel(pipe, 3), w.object(numbers, 8)
	for _, list := range []int64{before, after} {
		for i := range int64(7) {
			w.h.Put(list, i, 10+i, false, true, 1)
		}
	}
	if before+8 != addr || addr+8 != after {
		t.Fatalf("they are not side by side: %d, %d, %d", before, addr, after)
	}
	for n := range int64(20) {
		w.wantPush("beside", addr, -n, 1, true)
		w.wantPop("beside", addr, -n)
	}
	w.wantClose("beside", addr, true)
	wantElements(t, w.h, before)
	wantElements(t, w.h, after)
}

func wantElements(t *testing.T, h *heap.Heap, list int64) {
	t.Helper()
	for i := range int64(7) {
		if v, trap := h.At(list, i, false); v != 10+i || trap != api.TrapNone {
			t.Errorf("At(%d, %d): %d, %d", list, i, v, trap)
		}
	}
}
