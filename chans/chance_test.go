package chans_test

import (
	"slices"
	"testing"

	"gantline/api"
	"gantline/chans"
)

// dice tells numbers that look like chance, and are always the same.
type dice uint64

func (d *dice) below(n int) int {
	*d = *d*6364136223846793005 + 1442695040888963407
	return int(uint64(*d) >> 33 % uint64(n))
}

// thing is what should be at an address: a channel, or a pair that holds its serial number.
type thing struct {
	serial      int64
	channel     bool
	addresses   bool
	closed      bool
	room, first int64
	queue       []int64
}

// game is a heap on which stacks make things, hand them over by channels, and let go of them, while a collection goes along.
type game struct {
	*world
	d                          *dice
	things                     map[int64]*thing // by their addresses, also such as are given back
	serial                     int64
	made, pushed, popped, full int
}

func (d *dice) game(t *testing.T) *game {
	t.Helper()
	g := &game{world: begun(t, 8+d.below(5)), d: d, things: map[int64]*thing{}}
	for range 2 {
		g.keep(g.makes(true, int64(1+d.below(6)))) // the globals are these, from the beginning to the end
	}
	g.r.stacks = []stack{{id: 3}, {id: 1}, {id: 2}}
	return g
}

// live tells all that can be come to, by the plainest search.
func (g *game) live() map[int64]bool {
	found := map[int64]bool{}
	ahead := slices.Clone(g.r.globals)
	for _, s := range g.r.stacks {
		ahead = append(ahead, s.held...)
	}
	for len(ahead) > 0 {
		addr := ahead[0]
		ahead = ahead[1:]
		if addr == 0 || found[addr] {
			continue
		}
		found[addr] = true
		if x := g.things[addr]; x != nil && x.addresses {
			ahead = append(ahead, x.queue...)
		}
	}
	return found
}

// makes makes a channel: its address, or 0 where all is full.
func (g *game) makes(addresses bool, room int64) int64 {
	g.t.Helper()
	shape := pipe
	if addresses {
		shape = pipes
	}
	addr, trap, e := chans.Make(g.h, shape, room, g.r)
	if trap != api.TrapNone {
		g.t.Fatalf("Make with room %d: %d", room, trap)
	}
	return g.record(addr, e, &thing{channel: true, addresses: addresses, room: room})
}

// pairs makes a pair: its address, or 0 where all is full.
func (g *game) pairs() int64 {
	g.t.Helper()
	addr, e := g.h.Make(pair, 3, g.r)
	g.serial++
	x := &thing{serial: g.serial}
	if g.record(addr, e, x) != 0 {
		g.h.Set(addr, 0, x.serial, false, true, 0)
	}
	return addr
}

// record takes down what was made, which must not stand where something is that can be come to.
func (g *game) record(addr int64, e api.Errno, x *thing) int64 {
	g.t.Helper()
	if e == api.EFULL {
		g.full++
		return 0
	}
	if e != api.OK || g.live()[addr] {
		g.t.Fatalf("Make: %d, %d: it is there already", addr, e)
	}
	g.things[addr] = x
	g.made++
	return addr
}

// pick tells one of the channels that a stack can name, if there is one.
func (g *game) pick(s *stack) (int64, *thing) {
	known := slices.Concat(g.r.globals, s.held)
	addr := known[g.d.below(len(known))]
	return addr, g.things[addr]
}

// push lets a stack put something in: what it holds, or a number; it may let go of it then.
func (g *game) push(s *stack) {
	g.t.Helper()
	addr, x := g.pick(s)
	v, at := int64(g.d.below(1000)), -1
	if x.addresses || !x.channel {
		v = 0
		if len(s.held) > 0 {
			at = g.d.below(len(s.held))
			v = s.held[at]
		}
	}
	want := x.channel && !x.closed && int64(len(x.queue)) < x.room
	g.wantPush("chance", addr, v, s.id, want)
	if !want {
		return
	}
	g.pushed++
	x.queue = append(x.queue, v)
	if at >= 0 && g.d.below(2) == 0 {
		s.held = slices.Delete(slices.Clone(s.held), at, at+1)
	}
}

// pop lets a stack take something out, and hold it.
func (g *game) pop(s *stack) {
	g.t.Helper()
	addr, x := g.pick(s)
	if len(x.queue) == 0 {
		g.wantNoPop("chance", addr)
		return
	}
	g.popped++
	g.wantPop("chance", addr, x.queue[0])
	if v := x.queue[0]; x.addresses && v != 0 {
		g.hold(s, v)
	}
	x.queue = x.queue[1:]
	x.first = (x.first + 1) % x.room
}

// hold lets a stack hold one more; if it holds much, it lets go of some.
func (g *game) hold(s *stack, addr int64) {
	if addr == 0 {
		return
	}
	s.held = append(slices.Clone(s.held), addr)
	if len(s.held) > 6 {
		s.held = s.held[3:]
	}
}

// step does one thing.
func (g *game) step() {
	g.t.Helper()
	s := &g.r.stacks[g.d.below(len(g.r.stacks))]
	switch g.d.below(16) {
	case 0, 1:
		g.hold(s, g.pairs())
	case 2:
		room := g.d.below(5)
		if g.d.below(8) == 0 {
			room = 59 - g.d.below(3)
		}
		g.hold(s, g.makes(g.d.below(3) > 0, int64(room)))
	case 3, 4, 5, 6:
		g.push(s)
	case 7, 8, 9:
		g.pop(s)
	case 10:
		if addr, x := g.pick(s); !slices.Contains(g.r.globals, addr) && g.d.below(4) == 0 {
			g.wantClose("chance", addr, x.channel && !x.closed)
			x.closed = x.closed || x.channel
		}
	default:
		if c := g.h.Cycle(); !c.Start(g.r) {
			c.Step(g.r)
		}
	}
}

// want wants all that can be come to to be there, as it should be.
func (g *game) want() {
	g.t.Helper()
	for addr := range g.live() {
		x := g.things[addr]
		if x == nil {
			g.t.Fatalf("%d was never made", addr)
		}
		if !x.channel {
			if v, trap := g.h.Get(addr, 0, false); v != x.serial || trap != api.TrapNone {
				g.t.Fatalf("the pair at %d: %d, %d, want %d", addr, v, trap, x.serial)
			}
			continue
		}
		g.wantIs("chance", addr, !x.addresses, x.addresses)
		g.wantTold("chance", addr, x.room, int64(len(x.queue)), x.closed)
		g.wantFields("chance", addr, x.room, x.first, x.closed, x.queue)
	}
	if g.t.Failed() {
		g.t.FailNow()
	}
}

// P15.1, T3, T4: against lists, over many heaps, while collections go along: all that can be come to is there, and behind a whole one nothing else is.
func TestChance(t *testing.T) {
	d := dice(15)
	made, pushed, popped, full, done := 0, 0, 0, 0, 0
	for range 120 {
		g := d.game(t)
		for range 600 {
			g.step()
			g.want()
		}
		g.h.Cycle().Whole(g.r)
		g.want()
		var live []int64
		for addr := range g.live() {
			live = append(live, addr)
		}
		g.wantList("behind a whole one", g.taken(), live...)
		made, pushed, popped, full = made+g.made, pushed+g.pushed, popped+g.popped, full+g.full
		done += g.h.Cycle().Done()
	}
	// The heaps are such that much is told.
	if made < 10000 || pushed < 5000 || popped < 3000 || full < 10 || done < 500 {
		t.Errorf("%d made, %d pushed, %d popped, %d times full, %d collections", made, pushed, popped, full, done)
	}
}
