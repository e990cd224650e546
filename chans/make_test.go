package chans_test

import (
	"math"
	"slices"
	"testing"

	"gantline/api"
	"gantline/chans"
	"gantline/head"
)

// wrongRooms are those that no channel has.
func wrongRooms() []int64 {
	return []int64{
		-1, 60, -2, -5, -59, 61, 64, 127, 128, 1 << 31, 1 << 32, 1<<32 + 1, 1<<32 + 59, -1 << 32, -1<<32 + 1,
		math.MinInt64, math.MinInt64 + 1, math.MinInt64 + 59, math.MaxInt64, math.MaxInt64 - 4, math.MaxInt64 - 5,
	}
}

// wrongShapes are numbers of none.
func wrongShapes() []int {
	return []int{-1, -2, shapes, shapes + 1, 64, 65536, 1<<32 + pipe, math.MinInt, math.MinInt + pipe, math.MaxInt}
}

func (w *world) wantNoChannel(shape int, room int64, trap api.Trap, no api.Errno) {
	w.t.Helper()
	if addr, x, e := chans.Make(w.h, shape, room, w.r); addr != 0 || x != trap || e != no {
		w.t.Errorf("Make(%d, %d): %d, %d, %d, want 0, %d, %d", shape, room, addr, x, e, trap, no)
	}
}

// wantNew wants a channel that nothing was done with: its head, its fields, its place.
func (w *world) wantNew(where string, addr int64, shape int, room int64) {
	w.t.Helper()
	words := int(room) + 5
	what, s, ok := w.h.Of(addr)
	if !ok || what != (head.Head{Words: words, Kind: 3, Shape: shape}) || s != yard()[shape] {
		w.t.Errorf("%s: it is %v, %v, %v", where, what, s, ok)
	}
	if size := w.size(addr); size < words || size >= 2*words {
		w.t.Errorf("%s: a place of %d words, for %d", where, size, words)
	}
	w.wantFields(where, addr, room, 0, false, nil)
	w.wantTold(where, addr, room, 0, false)
	w.wantIs(where, addr, shape == pipe, shape == pipes)
}

// P15.1: each room that may be, of both kinds of elements, in each phase; nothing is forced.
func TestMakeEachRoom(t *testing.T) {
	for _, shape := range []int{pipe, pipes} {
		for phase := range phases {
			w := begun(t, 64)
			w.to(phase)
			for room := range int64(60) {
				w.wantNew("new", w.channel(shape, room), shape, room)
			}
			if w.h.Cycle().Phase() != phase {
				t.Errorf("phase %d, want %d", w.h.Cycle().Phase(), phase)
			}
			w.wantCounts("new", 0, 0)
			if got := len(w.taken()); got != 60 {
				t.Errorf("%d places are taken", got)
			}
		}
	}
}

// P15.1: a room that may not be is TrapSize, and no error, in each phase, with room in the heap and without; nothing is changed.
func TestMakeTrapsSize(t *testing.T) {
	for phase := range phases {
		w := begun(t, 8)
		w.fill(59)
		w.to(phase)
		for _, v := range []*world{w, begun(t, 8)} {
			v.wantSame("a wrong room", func() {
				for _, room := range wrongRooms() {
					for shape := range shapes {
						v.wantNoChannel(shape, room, api.TrapSize, api.OK)
					}
				}
			})
		}
	}
}

// P15.1: no such shape is heap's EARG, with no trap; nothing is changed, and nothing is forced where there is no room.
func TestMakeOfNoShape(t *testing.T) {
	for phase := range phases {
		w := begun(t, 8)
		w.fill(59)
		w.to(phase)
		for _, v := range []*world{w, begun(t, 8)} {
			v.wantSame("no shape", func() {
				for _, shape := range wrongShapes() {
					for _, room := range rooms() {
						v.wantNoChannel(shape, room, api.TrapNone, api.EARG)
					}
				}
			})
		}
	}
}

// P15.1: the room is asked first: with both wrong it is TrapSize.
func TestMakeBothWrong(t *testing.T) {
	w := begun(t, 8)
	w.wantSame("both wrong", func() {
		for _, shape := range wrongShapes() {
			for _, room := range wrongRooms() {
				w.wantNoChannel(shape, room, api.TrapSize, api.OK)
			}
		}
	})
}

// P15.1: of a shape of another Kind the chapter refuses nothing: heap's Make, and field 0 is room. It is no channel.
func TestMakeOfOtherKinds(t *testing.T) {
	for _, shape := range others() {
		for _, room := range []int64{0, 1, 2, 59} {
			w := begun(t, 8)
			addr := w.channel(shape, room)
			want := head.Head{Words: int(room) + 5, Kind: yard()[shape].Kind, Shape: shape}
			if what, s, ok := w.h.Of(addr); !ok || what != want || s != yard()[shape] {
				t.Errorf("Make(%d, %d): it is %v, %v, %v", shape, room, what, s, ok)
			}
			w.wantFields("another Kind", addr, room, 0, false, nil)
			w.wantNone("another Kind", addr)
		}
	}
}

// fill makes channels of numbers, all of them held, till the heap has no place more for one.
func (w *world) fill(room int64) []int64 {
	w.t.Helper()
	var list []int64
	for {
		addr := w.keep(w.channel(pipe, room))
		list = append(list, addr)
		if int(addr)+w.size(addr) == 64*w.h.Cycle().Arena().Spans() {
			return list
		}
	}
}

// P15.1: EFULL behind one whole collection, with no trap; each that comes forces one more. What is held stays as it is.
func TestMakeFull(t *testing.T) {
	for _, room := range []int64{0, 3, 4, 11, 12, 27, 28, 59} {
		w := begun(t, 8)
		list := w.fill(room)
		w.wantCounts("filled", 0, 0)
		for n := 1; n < 4; n++ {
			w.wantNoChannel(pipes, room, api.TrapNone, api.EFULL)
			w.wantCounts("full", n, n)
			w.wantList("taken", w.taken(), list...)
		}
		for _, addr := range list {
			w.wantNew("held", addr, pipe, room)
		}
	}
}

// P15.1: with no room but behind a whole collection: what nobody holds is given back, and the channel's words are 0 but its room.
func TestMakeForced(t *testing.T) {
	for _, shape := range []int{pipe, pipes} {
		for _, room := range []int64{0, 1, 3, 4, 27, 28, 59} {
			w := begun(t, 8)
			list := w.fill(room)
			for _, addr := range list {
				for at := 1; at < w.size(addr); at++ {
					w.lay(addr, at, -int64(at))
				}
			}
			w.r.globals = slices.Clone(list[1:3])
			addr := w.channel(shape, room)
			w.wantNew("forced", addr, shape, room)
			w.wantCounts("forced", 1, 1)
			w.wantList("taken", w.taken(), addr, list[1], list[2])
			if addr != list[0] || w.r.begun != 1 {
				t.Errorf("Make: %d, %d collections began", addr, w.r.begun)
			}
		}
	}
}

// P15.1: while a collection is under way, one that is forced ends it, and does one more.
func TestMakeForcedUnderWay(t *testing.T) {
	for _, phase := range []int{roots, marking} {
		w := begun(t, 8)
		list := w.fill(59)
		w.to(phase)
		w.r.globals = w.r.globals[1:]
		w.wantNew("forced", w.channel(pipes, 59), pipes, 59)
		w.wantCounts("forced", 1, 2)
		w.wantList("taken", w.taken(), list...)
	}
}

// P15.1: the places are those that heap's Make finds for room + 5 words, one behind the other.
func TestMakePlaces(t *testing.T) {
	w := begun(t, 8)
	for _, c := range []struct{ room, want int64 }{{0, 64}, {3, 72}, {4, 128}, {11, 144}, {12, 192}, {27, 224}, {28, 256}, {1, 80}, {59, 320}} {
		if got := w.channel(pipe, c.room); got != c.want {
			t.Errorf("Make with room %d: %d, want %d", c.room, got, c.want)
		}
	}
}

// P15.1: one that is made in roots or mark is marked, not grey; else it is not marked.
func TestMakeInPhases(t *testing.T) {
	for phase := range phases {
		w := begun(t, 16)
		w.object(numbers, 64)
		w.to(phase)
		addr := w.channel(pipes, 2)
		if got := slices.Contains(w.marked(), addr); got != (phase == roots || phase == marking) {
			t.Errorf("phase %d: marked %v", phase, got)
		}
		if left := w.h.Cycle().Marker().Left(); left != 0 {
			t.Errorf("phase %d: %d are grey", phase, left)
		}
	}
}
