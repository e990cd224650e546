package chans_test

import "testing"

// P15.1, P8.4: things in a channel of addresses are kept by a whole collection, wherever in the ring they stand; those taken out are not.
func TestThingsAreKept(t *testing.T) {
	for _, room := range []int64{1, 2, 3, 59} {
		for from := range min(room, 5) {
			w := begun(t, 32)
			addr := w.keep(w.channel(pipes, room))
			for range from {
				w.wantPush("from here", addr, 0, 1, true)
				w.wantPop("from here", addr, 0)
			}
			var things []int64
			for range room {
				things = append(things, w.object(pair, 3))
				w.wantPush("kept", addr, things[len(things)-1], 1, true)
			}
			for len(things) > 0 {
				w.h.Cycle().Whole(w.r)
				w.wantList("kept", w.taken(), append(things, addr)...)
				w.wantPop("kept", addr, things[0])
				things = things[1:]
			}
			w.h.Cycle().Whole(w.r)
			w.wantList("none is left", w.taken(), addr)
		}
	}
}

// P15.1: numbers keep nothing, though they be such as addresses are.
func TestNumbersKeepNothing(t *testing.T) {
	w := begun(t, 16)
	addr, thing := w.keep(w.channel(pipe, 2)), w.object(pair, 3)
	w.wantPush("numbers", addr, thing, 1, true)
	w.h.Cycle().Whole(w.r)
	w.wantList("taken", w.taken(), addr)
	w.wantPop("numbers", addr, thing)
}

// P15.1: a channel's own fields are no addresses: a room, a count, a first that look like one keep nothing.
func TestOwnFieldsKeepNothing(t *testing.T) {
	w := begun(t, 16)
	addr, other := w.keep(w.channel(pipes, 2)), w.object(pair, 3)
	for _, field := range []int{roomAt, countAt, firstAt, closedAt} {
		w.lay(addr, 1+field, other)
	}
	w.h.Cycle().Whole(w.r)
	w.wantList("taken", w.taken(), addr)
}

// P15.1: a closed one keeps what is in it; a channel that nobody holds keeps nothing; channels keep one another.
func TestChannelsAreKept(t *testing.T) {
	w := begun(t, 16)
	addr, inner, lost := w.keep(w.channel(pipes, 1)), w.channel(pipes, 1), w.channel(pipes, 1)
	thing, gone := w.object(pair, 3), w.object(pair, 3)
	w.wantPush("outer", addr, inner, 1, true)
	w.wantPush("inner", inner, thing, 1, true)
	w.wantPush("lost", lost, gone, 1, true)
	w.wantClose("outer", addr, true)
	w.wantClose("inner", inner, true)
	w.h.Cycle().Whole(w.r)
	w.wantList("taken", w.taken(), addr, inner, thing)
	w.wantPop("inner", inner, thing)
	w.wantPop("outer", addr, inner)
	w.h.Cycle().Whole(w.r)
	w.wantList("taken out", w.taken(), addr)
}

// P15.1: a full heap: what is in a channel is kept by the collection that Make forces.
func TestThingsAreKeptByForced(t *testing.T) {
	w := begun(t, 8)
	addr, thing, lost := w.keep(w.channel(pipes, 2)), w.object(pair, 64), w.object(pair, 64)
	w.wantPush("kept", addr, thing, 1, true)
	for range 20 {
		w.channel(pipe, 59)
	}
	if w.h.Forced() == 0 {
		t.Errorf("nothing was forced")
	}
	w.r.stacks = []stack{{id: 1}}
	w.h.Cycle().Whole(w.r)
	w.wantList("taken", w.taken(), addr, thing)
	w.wantPop("kept", addr, thing)
	if lost == thing {
		t.Errorf("one place for two")
	}
}

// P15.1, P8.4: what a black stack takes out of a channel that is not yet looked at is kept, since Pop tells of it.
func TestTakenOutByBlack(t *testing.T) {
	w := begun(t, 16)
	addr, thing := w.keep(w.channel(pipes, 1)), w.object(pair, 3)
	w.wantPush("in", addr, thing, 9, true)
	w.r.stacks = []stack{{id: 1}}
	w.to(marking)
	w.wantPop("out", addr, thing)
	w.r.stacks[0].held = []int64{thing}
	w.to(off)
	w.wantList("taken", w.taken(), addr, thing)
}

// P15.1, P8.4: what a stack that is not yet looked at puts into a channel that was, and lets go of, is kept, since Push tells of it.
func TestPutInByNotBlack(t *testing.T) {
	w := begun(t, 16)
	addr, thing := w.keep(w.channel(pipes, 1)), w.object(pair, 3)
	w.r.stacks = []stack{{id: 1, held: []int64{thing}}}
	w.h.Cycle().Start(w.r)
	for w.h.Cycle().Marker().Step() {
	}
	w.wantPush("in", addr, thing, 1, true)
	w.r.stacks[0].held = nil
	w.to(off)
	w.wantList("taken", w.taken(), addr, thing)
	w.wantPop("out", addr, thing)
}
