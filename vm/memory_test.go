package vm_test

import (
	"fmt"
	"testing"

	"gantline/code"
	"gantline/op"
)

// makers are instructions that make something in slot 2, with the number 1 in slot 0 and the number 40 in slot 1.
func makers() []code.Instr {
	return []code.Instr{in(op.New, 2, pair), in(op.New, 2, wide), in(op.Array, 2, nums, 0), in(op.Array, 2, refs, 1), in(op.Chan, 2, pipe, 0), in(op.Chan, 2, pipes, 1), in(op.Closure, 2, 1, 3)}
}

// filler fills a heap: each thing that it makes is held by the next pair, all by slot 3; or by nothing, if none is held.
func filler(i code.Instr, held bool) code.Func {
	list := []code.Instr{num(0, 1), num(1, 40), poll(), i}
	if held {
		// An array of two holds what was made, and the array ahead of it.
		list = append(list, num(5, 2), in(op.Array, 4, refs, 5), num(5, 0), in(op.Put, 4, 5, 2), num(5, 1), in(op.Put, 4, 5, 3), in(op.Move, 3, 4))
	}
	return fn(0, 0, 0, "nnaaan", append(list, jump(2))...)
}

// P17.1: EndMemory where a whole collection leaves no place, of each Maker: it is no Act, and nothing else is changed.
func TestEndMemory(t *testing.T) {
	for _, i := range makers() {
		for _, gc := range []int{0, 1, 5} {
			w := begunOn(t, 8, module(nil, filler(i, true), fn(0, 1, 0, "a", end())))
			acts := 0
			for n := range 10000 {
				acts = len(w.Acts())
				if !w.Do(1, 0) {
					break
				}
				for range gc {
					w.Collect()
				}
				if n%50 == 0 {
					w.wantSound(code.Show(i))
				}
			}
			w.wantSound(code.Show(i))
			w.want(fmt.Sprintf("%s, %d steps of the collector an instruction", code.Show(i), gc), "[] 4 0")
			if w.Heap().Forced() < 1 || len(w.Acts()) != acts || w.phase() != off {
				t.Errorf("%s: %d forced, %d Acts, want %d", code.Show(i), w.Heap().Forced(), len(w.Acts()), acts)
			}
			taken := 0
			for addr := int64(64); addr < 8*64; addr++ {
				if w.Heap().Cycle().Arena().Is(addr) {
					taken++
				}
			}
			if taken != len(w.Live()) {
				t.Errorf("%s: %d are taken, %d live", code.Show(i), taken, len(w.Live()))
			}
		}
	}
}

// P17.1: none is said while a whole collection leaves a place.
func TestNoEndMemory(t *testing.T) {
	for _, i := range makers() {
		w := begunOn(t, 8, module(nil, filler(i, false), fn(0, 1, 0, "a", end())))
		for range 3000 {
			w.Do(1, 0)
		}
		w.wantSound(code.Show(i))
		w.want(code.Show(i), "[] 0 0")
		if w.Heap().Forced() < 1 {
			t.Errorf("%s: %d forced", code.Show(i), w.Heap().Forced())
		}
	}
}

// P17.1: a whole collection begins where another one is, whatever its phase: what the instruction itself reads is held over it.
func TestForcedInEachPhase(t *testing.T) {
	for _, m := range moments() {
		// The heap is filled by arrays of 63, of which a global holds all but the last two.
		list := []code.Instr{num(0, 63), num(1, 0)}
		for range 5 {
			list = append(list, in(op.Array, 2, refs, 0), in(op.Load, 3, globalRef), in(op.Put, 2, 1, 3), in(op.Store, globalRef, 2))
		}
		list = append(list, in(op.Array, 2, nums, 0), in(op.New, 3, pair), num(0, 7), in(op.Set, 3, 0, 0))
		before := len(list)
		// Its words are too many for a place beside the pair.
		list = append(list, in(op.Closure, 4, 1, 3), in(op.Callc, 0, 4, 0, 0), show(0))
		w := begunOn(t, 8, module(nil, begins("nnaaaa", list...), fn(0, 3, 1, "aaan", in(op.Get, 3, 0, 0), in(op.Return, 3))))
		w.times(1, before)
		w.at(m)
		w.do(1)
		if m.phase != sweeping && w.Heap().Forced() != 1 {
			t.Errorf("%s: %d forced", m.name, w.Heap().Forced())
		}
		w.wantRun(m.name, "[7] 1 0")
	}
}

// P17.1: TrapSize comes ahead of EndMemory: nothing is collected for what is too great.
func TestSizeAheadOfMemory(t *testing.T) {
	for _, i := range []code.Instr{in(op.Array, 4, nums, 1), in(op.Chan, 4, pipe, 1)} {
		for size, want := range map[int64]string{40: "[] 4 0", 64: "[] 2 5", -1: "[] 2 5"} {
			w := begunOn(t, 8, module(nil, begins("nnaaa", append(fillers(7), num(1, size), i)...)))
			w.wantRun(fmt.Sprint(code.Show(i), " of ", size), want)
			if got := w.Heap().Forced(); got != int(truth(size == 40)) {
				t.Errorf("%s of %d: %d forced", code.Show(i), size, got)
			}
		}
	}
}

// fillers make so many wide objects, and hold them all.
func fillers(many int) []code.Instr {
	var list []code.Instr
	for range many {
		list = append(list, in(op.New, 2, wide), in(op.Load, 3, globalRef), in(op.Set, 2, 1, 3), in(op.Store, globalRef, 2))
	}
	return list
}
