package chans_test

import (
	"math"
	"slices"
	"testing"

	"gantline/chans"
)

// guarded is a world in a phase, with nothing marked and nothing grey. The stack 1 is black in roots and mark, the others are not.
type guarded struct {
	*world
	phase         int
	old, new      int64 // objects
	leads         map[int64]int64
	numbers, list int64 // a channel of numbers, one of addresses: both have room for three, and old is in them
}

func inPhase(t *testing.T, phase int) *guarded {
	t.Helper()
	w := begun(t, 16)
	g := &guarded{world: w, phase: phase, leads: map[int64]int64{}}
	g.old, g.new = g.leader(), g.leader()
	g.numbers, g.list = w.channel(pipe, 3), w.channel(pipes, 3)
	w.wantPush("at first", g.numbers, g.old, 1, true)
	w.wantPush("at first", g.list, g.old, 1, true)
	w.to(phase)
	w.h.Cycle().Born(1)
	w.wantList("marked at first", w.marked())
	return g
}

// leader is an object that leads to another: so it can be told when it is looked at.
func (g *guarded) leader() int64 {
	g.t.Helper()
	addr, next := g.object(pair, 3), g.object(pair, 3)
	g.h.Set(addr, 1, next, true, true, 1)
	g.leads[addr] = next
	return addr
}

// wantGrey wants these to be marked and grey, in this order, in roots and mark; else none: what each leads to is marked in its turn.
func (g *guarded) wantGrey(where string, want ...int64) {
	g.t.Helper()
	if g.phase != roots && g.phase != marking {
		want = nil
	}
	m := g.h.Cycle().Marker()
	g.wantList(where+": marked", g.marked(), want...)
	if m.Left() != len(want) {
		g.t.Errorf("%s in phase %d: %d are grey, want %d", where, g.phase, m.Left(), len(want))
	}
	for _, addr := range want {
		if slices.Contains(g.marked(), g.leads[addr]) {
			g.t.Errorf("%s: what %d leads to is marked too early", where, addr)
		}
		if !m.Step() || !slices.Contains(g.marked(), g.leads[addr]) {
			g.t.Errorf("%s: %d is not grey in its turn", where, addr)
		}
	}
	if got := g.h.Cycle().Phase(); got != g.phase {
		g.t.Errorf("%s: phase %d, want %d", where, got, g.phase)
	}
}

// P15.1: what a black stack puts in is not shaded.
func TestPushByBlack(t *testing.T) {
	for phase := range phases {
		g := inPhase(t, phase)
		g.wantPush("black", g.list, g.new, 1, true)
		g.wantGrey("black")
		g.wantFields("black", g.list, 3, 0, false, []int64{g.old, g.new})
	}
}

// P15.1: what another one puts in is: id is handed on as it is.
func TestPushByOthers(t *testing.T) {
	for phase := range phases {
		for _, id := range stackNumbers() {
			if id == 1 {
				continue
			}
			g := inPhase(t, phase)
			g.wantPush("another", g.list, g.new, id, true)
			g.wantGrey("another", g.new)
			g.wantFields("another", g.list, 3, 0, false, []int64{g.old, g.new})
		}
	}
}

// P15.1: what stood there is shaded first, by whomever: a Pop leaves 0 there, so it is laid by hand.
func TestPushOverSomething(t *testing.T) {
	for phase := range phases {
		for _, id := range []int{math.MinInt, -1, 0, 1, 2, math.MaxInt} {
			g := inPhase(t, phase)
			g.lay(g.list, 1+thingsAt+1, g.old)
			g.wantPush("over something", g.list, g.new, id, true)
			if id == 1 {
				g.wantGrey("over something", g.old)
			} else {
				g.wantGrey("over something", g.old, g.new)
			}
			g.wantFields("over something", g.list, 3, 0, false, []int64{g.old, g.new})
		}
	}
}

// P15.1: it is the thing's own place that is asked: what stands in the others is not shaded.
func TestPushAsksItsPlace(t *testing.T) {
	for phase := range phases {
		g := inPhase(t, phase)
		g.wantPop("its place", g.list, g.old)
		g.h.Cycle().Arena().Clear()
		for g.h.Cycle().Marker().Step() {
		}
		g.h.Cycle().Arena().Clear()
		other := g.old
		g.lay(g.list, 1+thingsAt, other)
		g.lay(g.list, 1+thingsAt+2, other)
		g.wantPush("its place", g.list, g.new, 2, true)
		g.wantGrey("its place", g.new)
	}
}

// P15.1: of numbers nothing is shaded, though they be such as addresses are.
func TestNoBarrierOfNumbers(t *testing.T) {
	for phase := range phases {
		for _, id := range stackNumbers() {
			g := inPhase(t, phase)
			g.lay(g.numbers, 1+thingsAt+1, g.old)
			g.wantPush("numbers", g.numbers, g.new, id, true)
			g.wantPop("numbers", g.numbers, g.old)
			g.wantPop("numbers", g.numbers, g.new)
			g.wantGrey("numbers")
		}
	}
}

// P15.1: what is taken out of a channel of addresses is shaded, whoever is black; the others in it are not.
func TestPopShades(t *testing.T) {
	for phase := range phases {
		for _, black := range []bool{false, true} {
			g := inPhase(t, phase)
			if black {
				for id := range 10 {
					g.h.Cycle().Born(id)
				}
			}
			g.wantPush("taken out", g.list, g.new, 1, true)
			if black || phase == off || phase == sweeping {
				g.wantList("ahead of it", g.marked())
			}
			g.wantPop("taken out", g.list, g.old)
			g.wantGrey("taken out", g.old)
			g.wantFields("taken out", g.list, 3, 1, false, []int64{g.new})
		}
	}
}

// P15.1: each that is taken out is grey in its turn; one that is marked already is not grey once more.
func TestPopsInARow(t *testing.T) {
	for phase := range phases {
		g := inPhase(t, phase)
		g.wantPush("in a row", g.list, g.new, 1, true)
		g.wantPush("in a row", g.list, g.old, 1, true)
		g.wantPop("in a row", g.list, g.old)
		g.wantPop("in a row", g.list, g.new)
		g.wantPop("in a row", g.list, g.old)
		g.wantGrey("in a row", g.old, g.new)
	}
}

// P15.1: a closed one, too, tells of what is taken out.
func TestPopOfClosedShades(t *testing.T) {
	for phase := range phases {
		g := inPhase(t, phase)
		g.wantClose("closed", g.list, true)
		g.wantGrey("closed")
		g.wantPop("closed", g.list, g.old)
		g.wantGrey("popped", g.old)
	}
}

// P15.1: things of a channel of addresses that are none, 0 too: they come and go, and nothing is shaded.
func TestBarrierOfNoAddress(t *testing.T) {
	for phase := range phases {
		g := inPhase(t, phase)
		addr := g.channel(pipes, 1)
		g.wantSame("no address", func() {
			for _, v := range append(nowhere(), g.old+1, g.list+1) {
				g.lay(addr, 1+firstAt, 0)
				g.wantPush("no address", addr, v, 2, true)
				g.wantPop("no address", addr, v)
			}
		})
	}
}

// P15.1: a call that is refused shades nothing: a full channel, an empty one, one of no room, what is none.
func TestNoBarrierOfRefused(t *testing.T) {
	for phase := range phases {
		g := inPhase(t, phase)
		g.wantPush("full", g.list, 0, 1, true)
		g.wantPush("full", g.list, 0, 1, true)
		empty, none := g.channel(pipes, 2), g.channel(pipes, 0)
		g.lay(empty, 1+thingsAt, g.old)
		g.wantSame("refused", func() {
			for _, id := range stackNumbers() {
				for _, addr := range []int64{g.list, none, g.old, 0, -1, g.list + 1} {
					g.wantPush("refused", addr, g.new, id, false)
				}
			}
			for _, addr := range []int64{empty, none, g.old, 0, -1, g.list + 1} {
				g.wantNoPop("refused", addr)
			}
		})
	}
}

// P15.1: Is, Room, Count, Closed and Close shade nothing.
func TestAskingShadesNothing(t *testing.T) {
	for phase := range phases {
		g := inPhase(t, phase)
		for _, addr := range []int64{g.list, g.numbers} {
			chans.Is(g.h, addr, true)
			chans.Is(g.h, addr, false)
			chans.Room(g.h, addr)
			chans.Count(g.h, addr)
			chans.Closed(g.h, addr)
			chans.Close(g.h, addr)
		}
		g.wantGrey("asking")
	}
}
