package chans_test

import "testing"

// P15.1: Close says true once; field 3 is 1 then, and nothing else is changed, in each phase.
func TestClose(t *testing.T) {
	for _, shape := range []int{pipe, pipes} {
		for phase := range phases {
			for _, room := range rooms() {
				w := begun(t, 8)
				addr := w.keep(w.channel(shape, room))
				w.to(phase)
				left := w.h.Cycle().Marker().Left()
				w.wantClose("once", addr, true)
				w.wantFields("once", addr, room, 0, true, nil)
				w.wantTold("once", addr, room, 0, true)
				w.wantIs("once", addr, shape == pipe, shape == pipes)
				w.wantSame("twice", func() {
					w.wantClose("twice", addr, false)
					w.wantClose("thrice", addr, false)
				})
				if w.h.Cycle().Marker().Left() != left || w.h.Cycle().Phase() != phase {
					t.Errorf("phase %d, %d are grey", w.h.Cycle().Phase(), w.h.Cycle().Marker().Left())
				}
			}
		}
	}
}

// P15.1: a closed one takes nothing more, though it has room; what is in it still comes out, in order, and then nothing.
func TestClosedWithThings(t *testing.T) {
	for _, shape := range []int{pipe, pipes} {
		for _, room := range rooms() {
			for _, count := range []int64{0, 1, room / 2, room - 1, room} {
				if count < 0 || count > room {
					continue
				}
				r := begun(t, 8).ring(shape, room)
				for range room / 3 {
					r.push()
					r.pop()
				}
				for range count {
					r.push()
				}
				r.wantClose("closed", r.addr, true)
				r.wantDrained()
			}
		}
	}
}

// wantDrained wants a closed one to give what is in it, and to take nothing.
func (r *ring) wantDrained() {
	r.t.Helper()
	for {
		r.wantFields("closed", r.addr, r.room, r.first, true, r.things)
		r.wantTold("closed", r.addr, r.room, int64(len(r.things)), true)
		r.wantSame("closed", func() {
			r.t.Helper()
			r.wantPush("closed", r.addr, 64, 1, false)
			r.wantClose("closed", r.addr, false)
		})
		if len(r.things) == 0 {
			break
		}
		r.wantPop("closed", r.addr, r.things[0])
		r.things = r.things[1:]
		r.first = (r.first + 1) % r.room
	}
	r.wantSame("closed and empty", func() {
		r.t.Helper()
		r.wantNoPop("closed and empty", r.addr)
		r.wantNoPop("closed and empty", r.addr)
		r.wantPush("closed and empty", r.addr, 64, 1, false)
	})
}

// P15.1: what a closed one takes not is not shaded, in each phase.
func TestClosedShadesNothing(t *testing.T) {
	for phase := range phases {
		w := begun(t, 16)
		addr, thing := w.channel(pipes, 2), w.object(pair, 3)
		w.wantClose("closed", addr, true)
		w.to(phase)
		w.wantSame("closed", func() {
			w.wantPush("closed", addr, thing, 2, false)
		})
	}
}
