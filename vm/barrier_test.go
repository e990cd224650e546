package vm_test

import (
	"slices"
	"testing"

	"gantline/api"
	"gantline/code"
	"gantline/op"
)

// The slots of a scene's Main.
const (
	zero   = iota // a number that is 0
	box           // an object that leads to the hidden one
	holder        // an object, array or channel that leads to the old one
	hidden        // an address slot, nil till the hidden one is fetched
	spare         // an address slot
)

const sceneKinds = "naaaa"

// scene is a machine that stands ahead of an instruction; nothing but its box and its holder is named by a map, so the two others are marked only where a barrier, or the collector, comes to them.
type scene struct {
	world
	old, fresh int64
}

// sceneOf lays a box with the hidden object, and a holder with the old one by its own list, then the collector goes to a moment, then the hidden one is fetched; the list that is asked follows, and what keeps both alive.
func sceneOf(t *testing.T, m moment, lay, list []code.Instr, more ...code.Func) scene {
	t.Helper()
	all := []code.Instr{in(op.New, hidden, pair), in(op.New, box, pair), in(op.Set, box, 1, hidden), in(op.New, spare, pair), in(op.Same, zero, spare, spare), num(zero, 0)}
	all = append(all, lay...)
	all = append(all, in(op.Nil, hidden), in(op.Nil, spare), poll())
	before := len(all)
	all = append(all, in(op.Get, hidden, box, 1))
	all = append(all, list...)
	all = append(all, poll(), in(op.Same, zero, box, holder), in(op.Same, zero, hidden, spare))
	w := begun(t, append([]code.Func{begins(sceneKinds, all...)}, more...)...)
	s := scene{world: w}
	for pc := range before {
		if pc == 4 {
			s.fresh, s.old = w.held(w.Stack(1)[0], 1), w.Stack(1)[1]
		}
		w.do(1)
	}
	w.at(m)
	if m.phase != sweeping {
		w.wantMarked(m.name+", ahead of it", false, s.old, s.fresh)
	}
	w.do(1)
	return s
}

// writes are lists that write the hidden one over the old one, and how it is laid there.
func writes() map[string][2][]code.Instr {
	array := []code.Instr{num(zero, 1), in(op.Array, holder, refs, zero), num(zero, 0), in(op.Put, holder, zero, spare)}
	return map[string][2][]code.Instr{
		"set": {{in(op.New, holder, pair), in(op.Set, holder, 1, spare)}, {in(op.Set, holder, 1, hidden)}},
		"put": {array, {in(op.Put, holder, zero, hidden)}},
	}
}

// P17.1: set and put of an address call cycle's Barrier in each phase: what was is shaded in roots and mark; what is written too, if the stack is not black.
func TestBarrierOfWrites(t *testing.T) {
	for name, x := range writes() {
		for _, m := range moments() {
			if m.phase == sweeping {
				continue
			}
			s := sceneOf(t, m, x[0], x[1])
			s.wantMarked(name+", "+m.name, false, s.old, s.fresh)
			s.do(1)
			s.wantMarked(name+", "+m.name+", the old one", m.shades(), s.old)
			s.wantMarked(name+", "+m.name+", the new one", m.shades() && !m.black, s.fresh)
		}
	}
}

// P17.1: store of an address calls cycle's Barrier likewise; of a number it does not.
func TestBarrierOfStore(t *testing.T) {
	for _, m := range moments() {
		if m.phase == sweeping {
			continue
		}
		// The first store hides the new one in a global, past the roots; the second one writes over it.
		s := sceneOf(t, m, []code.Instr{in(op.Move, holder, box)}, []code.Instr{in(op.Store, globalRef, hidden), in(op.Store, globalRef, spare)})
		s.do(1)
		s.wantMarked(m.name+", the new one", m.shades() && !m.black, s.fresh)
		s.do(1)
		s.wantMarked(m.name+", written over", m.shades(), s.fresh)
		s.wantMarked(m.name+", another", false, s.old)
	}
	// A number that looks like an address.
	w := begun(t, begins("naa", in(op.New, 1, pair), num(0, 64), in(op.Store, globalNum, 0), in(op.Get, 0, 1, 0)))
	w.do(1, 1)
	w.to(roots)
	w.do(1)
	w.wantMarked("a number", false, 64)
	w.do(1)
}

// P17.1: a barrier of a write is told by whom it is: another's blackness does not count.
func TestBarrierIsOwn(t *testing.T) {
	// Goroutine 2 is black, for it began in roots; 1 is not.
	s := sceneOf(t, moments()[1], []code.Instr{in(op.New, holder, pair), in(op.Set, holder, 1, spare)}, []code.Instr{in(op.Go, 1, box), in(op.Set, holder, 1, hidden)},
		fn(2, 0, 0, "aaa", in(op.Get, 2, 0, 1), in(op.Set, 1, 1, 2), in(op.Store, globalRef, 2), end()))
	s.do(1, 2, 2, 2)
	s.wantMarked("by goroutine 2", false, s.fresh)
	s.wantMarked("by goroutine 2", true, s.old)
	s.do(1)
	s.wantMarked("by goroutine 1", true, s.fresh)
}

// P17.1: setn and putn of addresses call no Barrier, where set and put do.
func TestNoBarrier(t *testing.T) {
	for _, m := range moments()[:2] {
		for _, x := range []struct {
			make, write code.Instr
			barrier     bool
		}{
			{in(op.New, 1, pair), in(op.Set, 1, 1, 2), true}, {in(op.New, 1, pair), in(op.Setn, 1, 1, 2), false},
			{in(op.Array, 1, refs, 0), in(op.Put, 1, 3, 2), true}, {in(op.Array, 1, refs, 0), in(op.Putn, 1, 3, 2), false},
		} {
			w := begun(t, begins("naan", num(0, 1), x.make, in(op.New, 2, pair), x.write, in(op.Same, 0, 1, 2)))
			w.do(1, 1, 1)
			held := w.Stack(1)
			w.at(m)
			w.do(1)
			w.wantMarked(m.name+", "+code.Show(x.write), x.barrier && m.shades(), held[1])
			w.wantMarked(m.name+", "+code.Show(x.write), false, held[0])
			field := map[bool]int{true: 1}[x.make.Op == op.New]
			if got := w.held(held[0], field); got != held[1] {
				t.Errorf("%s: it is not written: %d", code.Show(x.write), got)
			}
		}
	}
}

// P17.1: writes of numbers call no Barrier, though the number looks like an address.
func TestNoBarrierOfNumbers(t *testing.T) {
	for _, write := range []code.Instr{in(op.Set, 1, 0, 0), in(op.Setn, 1, 0, 0)} {
		w := begun(t, begins("na", in(op.New, 1, pair), num(0, 64), write, in(op.Get, 0, 1, 0)))
		w.do(1, 1)
		w.to(roots)
		w.do(1)
		w.wantMarked(code.Show(write), false, 64)
	}
}

// P17.1: in sweep and off nothing is shaded: what is made then is not marked, wherever it is written or sent.
func TestBarrierInSweep(t *testing.T) {
	lists := [][]code.Instr{
		{in(op.Set, box, 1, hidden)}, {in(op.Store, globalRef, hidden)}, {in(op.Closure, holder, 1, hidden)}, {in(op.Go, 2, hidden)},
		{in(op.Closure, holder, 2, zero), in(op.Goc, holder, hidden, 1)}, {in(op.Closure, holder, 1, hidden), in(op.Goc, holder, 0, 0)},
		{num(zero, 1), in(op.Chan, holder, pipes, zero), in(op.Send, holder, hidden), in(op.Recv, spare, holder, op.None)},
	}
	for n, list := range lists {
		for _, phase := range []int{off, sweeping} {
			all := append([]code.Instr{in(op.New, box, pair), in(op.New, hidden, pair)}, list...)
			w := begun(t, begins(sceneKinds, append(all, in(op.Same, zero, box, hidden), in(op.Same, zero, holder, spare))...), fn(0, 1, 0, "a", end()), fn(1, 0, 0, "a", end()))
			w.do(1)
			w.to(phase)
			w.do(1)
			addr := w.Stack(1)[1]
			for range list {
				w.do(1)
				w.wantMarked("in off or sweep", false, addr)
			}
			if w.Heap().Cycle().Marker().Left() != 0 || w.phase() != phase {
				t.Errorf("list %d: something is grey", n)
			}
		}
	}
}

// P17.1: a closure calls cycle's Barrier of 0 and each address that it catches.
func TestBarrierOfClosure(t *testing.T) {
	for _, m := range moments() {
		if m.phase == sweeping {
			continue
		}
		s := sceneOf(t, m, []code.Instr{in(op.Move, holder, box)}, []code.Instr{in(op.Closure, spare, 1, zero)},
			fn(0, 4, 0, sceneKinds[:4], end()))
		s.do(1)
		s.wantMarked(m.name+", what is caught", m.shades() && !m.black, s.fresh)
		s.wantMarked(m.name+", another", false, s.old)
	}
}

// P17.1: a closure that catches numbers, and a goroutine that gets them, shade none, though they look like addresses.
func TestNumbersAreNotShaded(t *testing.T) {
	for _, list := range [][]code.Instr{{in(op.Closure, 2, 1, 0), poll()}, {in(op.Go, 2, 0), poll()}, {in(op.Closure, 2, 1, 0), in(op.Goc, 2, 0, 0)}, {in(op.Closure, 2, 2, 0), in(op.Goc, 2, 0, 1)}} {
		w := begun(t, begins("naa", append(append([]code.Instr{in(op.New, 1, pair), num(0, 64)}, list...), in(op.Get, 0, 1, 0))...), fn(0, 1, 0, "n", end()), fn(1, 0, 0, "n", end()))
		w.do(1, 1)
		w.to(roots)
		w.do(1, 1)
		w.wantMarked(code.Show(list[1]), false, 64)
	}
}

// P17.1: go and goc Shade all address arguments, and caught addresses, in roots and mark, whatever stack begins it.
func TestGoShades(t *testing.T) {
	for _, m := range moments() {
		if m.phase == sweeping {
			continue
		}
		taker := fn(1, 0, 0, "a", poll(), end())
		for name, list := range map[string][]code.Instr{
			"go":  {in(op.Go, 1, hidden)},
			"goc": {in(op.Closure, spare, 1, 0), in(op.Goc, spare, hidden, 1)},
		} {
			s := sceneOf(t, m, []code.Instr{in(op.Move, holder, box)}, list, taker)
			s.times(1, len(list))
			s.wantMarked(name+", "+m.name, m.shades(), s.fresh)
			s.wantMarked(name+", "+m.name+", another", false, s.old)
		}
		// What is caught: the closure that is fetched leads to it, and was made ahead.
		w := begun(t,
			begins("naaa", in(op.New, 1, pair), in(op.Closure, 2, 1, 1), in(op.New, 3, pair), in(op.Set, 3, 1, 2), in(op.Nil, 1), in(op.Nil, 2), poll(), in(op.Get, 2, 3, 1), in(op.Goc, 2, 0, 0), in(op.Same, 0, 2, 3)),
			fn(0, 1, 0, "a", poll(), in(op.Get, 0, 0, 1), end()))
		w.do(1)
		object := w.Stack(1)[0]
		w.times(1, 6)
		w.at(m)
		w.do(1)
		closure := w.Stack(1)[0]
		w.do(1)
		w.wantMarked("caught, "+m.name, m.shades(), object)
		w.wantMarked("the closure, "+m.name, false, closure)
	}
}

// P17.1: go and goc of a goroutine too many shade nothing.
func TestGoTooManyShadesNothing(t *testing.T) {
	for _, begin := range []code.Instr{in(op.Go, 1, hidden), in(op.Goc, holder, hidden, 1)} {
		list := append(slices.Repeat([]code.Instr{in(op.Go, 2, 0)}, api.MaxGos-1), begin)
		s := sceneOf(t, moments()[2], []code.Instr{in(op.Closure, holder, 1, 0)}, list, fn(1, 0, 0, "a", end()), begins("", poll()))
		s.times(1, api.MaxGos-1)
		s.want("up to the limit", "[] 0 0")
		s.do(1)
		s.want("one too many", "[] 2 6")
		s.wantMarked("one too many", false, s.fresh)
	}
}

// P17.1: send of an address into a channel with room: Push's Barrier, told by whom it is; recv of it: Pop's.
func TestBarrierOfChannel(t *testing.T) {
	lay := []code.Instr{num(zero, 2), in(op.Chan, holder, pipes, zero), in(op.Send, holder, spare)}
	for _, m := range moments() {
		if m.phase == sweeping {
			continue
		}
		s := sceneOf(t, m, lay, []code.Instr{in(op.Send, holder, hidden), in(op.Recv, spare, holder, op.None), in(op.Recv, spare, holder, op.None)})
		s.do(1)
		s.wantMarked("send, "+m.name, m.shades() && !m.black, s.fresh)
		s.wantMarked("send, "+m.name+", another", false, s.old)
		s.do(1)
		s.wantMarked("recv, "+m.name, m.shades(), s.old)
		s.do(1)
		s.wantMarked("recv, "+m.name, m.shades(), s.fresh)
	}
}

// P17.1: Push's Barrier is told by whom it is: goroutine 2 is black, for it began in roots; 1 is not.
func TestBarrierOfChannelIsOwn(t *testing.T) {
	s := sceneOf(t, moments()[1], []code.Instr{num(zero, 2), in(op.Chan, holder, pipes, zero)}, []code.Instr{in(op.Go, 1, box), in(op.Send, holder, hidden)},
		fn(2, 0, 0, "aaa", in(op.Get, 2, 0, 1), in(op.Send, 1, 2), end()))
	s.do(1, 2, 2)
	s.wantMarked("by goroutine 2", false, s.fresh)
	s.do(1)
	s.wantMarked("by goroutine 1", true, s.fresh)
}

// P17.1: a closure's Barrier is told by whom it is, too.
func TestBarrierOfClosureIsOwn(t *testing.T) {
	s := sceneOf(t, moments()[1], []code.Instr{in(op.Move, holder, box)}, []code.Instr{in(op.Go, 1, box), in(op.Closure, holder, 2, hidden)},
		fn(1, 0, 0, "aa", in(op.Get, 1, 0, 1), in(op.Closure, 0, 2, 1), end()), fn(0, 1, 0, "a", end()))
	s.do(1, 2, 2)
	s.wantMarked("by goroutine 2", false, s.fresh)
	s.do(1)
	s.wantMarked("by goroutine 1", true, s.fresh)
}
