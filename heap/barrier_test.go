package heap_test

import (
	"slices"
	"testing"

	"gantline/api"
)

// guarded is a world in a phase, with nothing marked; the stack 1 is black in roots and mark, the others are not.
type guarded struct {
	*world
	phase    int
	old, new int64 // objects
	oldLeads int64 // what the old one leads to
	newLeads int64
	fields   int64 // an object: its field 0 is old as a number, its field 1 old as an address
	numbers  int64 // an array of numbers, its element 1 is old
	list     int64 // one of addresses, its element 1 is old
}

func inPhase(t *testing.T, phase int) *guarded {
	t.Helper()
	w := begun(t, 16)
	g := &guarded{world: w, phase: phase}
	g.oldLeads, g.newLeads, g.old, g.new = w.make(pair, 3), w.make(pair, 3), w.make(pair, 3), w.make(pair, 3)
	g.fields, g.numbers, g.list = w.make(pair, 3), w.make(numbers, 3), w.make(addresses, 3)
	w.wantSet(g.old, 1, g.oldLeads, true, true, 0)
	w.wantSet(g.new, 1, g.newLeads, true, true, 0)
	w.wantSet(g.fields, 0, g.old, false, true, 0)
	w.wantSet(g.fields, 1, g.old, true, true, 0)
	w.wantPut(g.numbers, 1, g.old, false, true, 0)
	w.wantPut(g.list, 1, g.old, true, true, 0)
	w.to(phase)
	w.h.Cycle().Born(1)
	w.wantMarked("at first")
	w.wantLeft("at first", 0)
	return g
}

// shades tells whether it is a phase in which Barrier does something.
func (g *guarded) shades() bool { return g.phase == roots || g.phase == marking }

// wantGrey wants these to be marked and grey, in this order: what each leads to is marked in its turn.
func (g *guarded) wantGrey(where string, want ...int64) {
	g.t.Helper()
	if !g.shades() {
		want = nil
	}
	g.wantMarked(where, want...)
	g.wantLeft(where, len(want))
	leads := map[int64]int64{g.old: g.oldLeads, g.new: g.newLeads}
	for _, addr := range want {
		if slices.Contains(g.marked(), leads[addr]) {
			g.t.Errorf("%s: what %d leads to is marked too early", where, addr)
		}
		if !g.h.Cycle().Marker().Step() || !slices.Contains(g.marked(), leads[addr]) {
			g.t.Errorf("%s: %d is not grey in its turn", where, addr)
		}
	}
	if got := g.h.Cycle().Phase(); got != g.phase {
		g.t.Errorf("%s: phase %d, want %d", where, got, g.phase)
	}
}

// writers write an address over old: into a field, and into an array.
func writers() map[string]func(g *guarded, v int64, barrier bool, id int) {
	return map[string]func(g *guarded, v int64, barrier bool, id int){
		"Set": func(g *guarded, v int64, barrier bool, id int) {
			g.t.Helper()
			g.wantSet(g.fields, 1, v, true, barrier, id)
			g.wantGet(g.fields, 1, true, v)
		},
		"Put": func(g *guarded, v int64, barrier bool, id int) {
			g.t.Helper()
			g.wantPut(g.list, 1, v, true, barrier, id)
			g.wantAt(g.list, 1, true, v)
		},
	}
}

// P14.2: with barrier, by a stack that is black: the word that was is shaded, the new one not.
func TestBarrierByBlack(t *testing.T) {
	for name, write := range writers() {
		for phase := range phases {
			g := inPhase(t, phase)
			write(g, g.new, true, 1)
			g.wantGrey(name, g.old)
		}
	}
}

// P14.2: by another one: the word that was, and then the new one; id is handed on as it is.
func TestBarrierByOthers(t *testing.T) {
	for name, write := range writers() {
		for phase := range phases {
			for _, id := range stackNumbers() {
				if id == 1 {
					continue
				}
				g := inPhase(t, phase)
				write(g, g.new, true, id)
				g.wantGrey(name, g.old, g.new)
			}
		}
	}
}

// P14.2: without barrier nothing is shaded, by whomever.
func TestNoBarrier(t *testing.T) {
	for name, write := range writers() {
		for phase := range phases {
			for _, id := range stackNumbers() {
				g := inPhase(t, phase)
				write(g, g.new, false, id)
				g.wantGrey(name)
			}
		}
	}
}

// P14.2: what holds no addresses has no barrier, though it be asked for, and though the words are such as addresses are.
func TestNoBarrierOfNumbers(t *testing.T) {
	for phase := range phases {
		for _, id := range stackNumbers() {
			for _, barrier := range []bool{true, false} {
				g := inPhase(t, phase)
				g.wantSet(g.fields, 0, g.new, false, barrier, id)
				g.wantPut(g.numbers, 1, g.new, false, barrier, id)
				g.wantGet(g.fields, 0, false, g.new)
				g.wantAt(g.numbers, 1, false, g.new)
				g.wantGrey("numbers")
			}
		}
	}
}

// P14.2: a call that traps has no barrier.
func TestNoBarrierOfTraps(t *testing.T) {
	for phase := range phases {
		g := inPhase(t, phase)
		for _, addr := range []int64{g.fields, g.numbers, g.list} {
			for _, at := range []int{-1, 0, 1, 2, 3} {
				for _, address := range []bool{true, false} {
					if _, trap := g.h.Get(addr, at, address); trap != api.TrapNone {
						g.h.Set(addr, at, g.new, address, true, 2)
					}
					if _, trap := g.h.At(addr, int64(at), address); trap != api.TrapNone {
						g.h.Put(addr, int64(at), g.new, address, true, 2)
					}
				}
			}
		}
		g.wantGrey("traps")
	}
}

// P14.2: nothing is written over, or nothing is written: the other one is shaded alone.
func TestBarrierOfNothing(t *testing.T) {
	for phase := range phases {
		g := inPhase(t, phase)
		g.wantSet(g.fields, 1, 0, true, true, 2)
		g.wantPut(g.list, 1, 0, true, true, 2)
		g.wantGrey("0 is written", g.old)
		g = inPhase(t, phase)
		g.wantPut(g.list, 0, g.new, true, true, 2)
		g.wantGrey("0 is written over", g.new)
		g = inPhase(t, phase)
		g.wantPut(g.list, 0, g.new, true, true, 1)
		g.wantGrey("0 is written over by a black one")
	}
}

// P14.2: the word that was is the one that stands there now: of many writes in a row each tells of the one before.
func TestBarrierOfWritesInARow(t *testing.T) {
	for name, write := range writers() {
		for phase := range phases {
			g := inPhase(t, phase)
			write(g, g.new, false, 1)
			write(g, g.old, true, 1)
			g.wantGrey(name, g.new)
			g = inPhase(t, phase)
			write(g, g.new, true, 1)
			write(g, 0, true, 1)
			g.wantGrey(name, g.old, g.new)
		}
	}
}

// P14.2: Get and At shade nothing.
func TestReadsShadeNothing(t *testing.T) {
	for phase := range phases {
		g := inPhase(t, phase)
		g.wantSame("reading", func() {
			for _, at := range []int{-1, 0, 1, 2} {
				for _, address := range []bool{true, false} {
					for _, addr := range []int64{g.fields, g.numbers, g.list, g.old} {
						g.h.Get(addr, at, address)
						g.h.At(addr, int64(at), address)
						g.h.Len(addr)
						g.h.Of(addr)
					}
				}
			}
		})
	}
}

// P14.2, P8.4: what a black stack takes out of an object is kept by the barrier; without it, it would be given back.
func TestBarrierKeeps(t *testing.T) {
	for _, barrier := range []bool{true, false} {
		w := begun(t, 16)
		a, b := w.keep(pair, 3), w.make(pair, 3)
		w.wantSet(a, 1, b, true, true, 1)
		w.r.stacks = []stack{{id: 1}}
		w.to(marking)
		w.wantSet(a, 1, 0, true, barrier, 1)
		w.r.stacks[0].held = []int64{b}
		w.to(off)
		if barrier {
			w.wantTaken("with it", a, b)
		} else {
			w.wantTaken("without it", a)
		}
	}
}
