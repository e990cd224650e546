package fresh_test

import (
	"math"
	"slices"
	"testing"

	"gantline/code"
	"gantline/fresh"
)

// last is a function of 64 slots of addresses with new 0, new 1, what is between and the instruction that is asked at pc.
func last(i code.Instr, between ...code.Instr) (f code.Func, pc int) {
	list := append([]code.Instr{made(0), made(1)}, between...)
	return function(64, append(list, i, end())...), len(list)
}

func wantSpare(t *testing.T, want bool, i code.Instr, between ...code.Instr) {
	t.Helper()
	f, pc := last(i, between...)
	if got := fresh.Spare(yard(), f, pc); got != want {
		t.Errorf("Spare(%d) of %s: %v", pc, show(f), got)
	}
	wantPlain(t, "spare", yard(), f)
}

// P11.2: the examples.
func TestSpareExamples(t *testing.T) {
	wantSpare(t, true, set(0, 0, 1))
	wantSpare(t, false, set(0, 0, 1), poll())
}

// P11.2: of each kind of instruction; a number that is written needs no barrier, but only a set and a put write one.
func TestSpareRows(t *testing.T) {
	for op := -3; op < 60; op++ {
		i := code.Instr{Op: op, A: 0, B: 2, C: 1}
		write := op == 28 || op == 29 || op == 31 || op == 32
		wantSpare(t, write, i)
		f, pc := last(i)
		f.Kinds = make([]bool, 64)
		if got := fresh.Spare(yard(), f, pc); got != write {
			t.Errorf("%s: %v", code.Show(i), got)
		}
	}
	for _, op := range []int{math.MinInt, math.MaxInt, 1<<32 + 28, 28 - 1<<32} {
		wantSpare(t, false, code.Instr{Op: op, A: 0, B: 2, C: 1})
	}
}

// P11.2: places that are none.
func TestSparePlaces(t *testing.T) {
	f, at := last(set(0, 0, 1))
	g, _ := last(set(0, 0, 1))
	g.Kinds = make([]bool, 64)
	for _, pc := range []int{-1, -2, len(f.Code), len(f.Code) + 1, math.MinInt, math.MinInt + 1, math.MaxInt, math.MaxInt - 1, 1<<32 + at} {
		for _, h := range []code.Func{f, g, {}} {
			if fresh.Spare(code.Module{}, h, pc) {
				t.Errorf("Spare(%d)", pc)
			}
		}
	}
	if fresh.Spare(code.Module{}, code.Func{}, 0) {
		t.Errorf("of no code")
	}
	for pc := range f.Code {
		if fresh.Spare(code.Module{}, f, pc) != (pc == at) || fresh.Spare(code.Module{}, g, pc) != (pc == at) {
			t.Errorf("Spare(%d)", pc)
		}
	}
	// What lies behind the code in its spare room is none of it.
	g.Code = g.Code[:at]
	if fresh.Spare(code.Module{}, g, at) {
		t.Errorf("in the spare room")
	}
}

// P11.2: slot C of kind false, whatever is known else.
func TestSpareKinds(t *testing.T) {
	for _, op := range []int{28, 29, 31, 32} {
		for c := range 64 {
			i := code.Instr{Op: op, A: 9, B: 3, C: c}
			f := function(64, poll(), i, end())
			if fresh.Spare(code.Module{}, f, 1) {
				t.Errorf("%s: of kind true", code.Show(i))
			}
			f.Kinds[c] = false
			if !fresh.Spare(code.Module{}, f, 1) {
				t.Errorf("%s: of kind false", code.Show(i))
			}
			// Of the others' kinds nothing is asked.
			f.Kinds = make([]bool, 64)
			f.Kinds[c] = true
			if fresh.Spare(code.Module{}, f, 1) {
				t.Errorf("%s: the others of kind false", code.Show(i))
			}
		}
		i := code.Instr{Op: op, A: 0, B: 3, C: 1}
		f := function(2, end(), i, end())
		f.Kinds[1] = false
		if !fresh.Spare(code.Module{}, f, 1) {
			t.Errorf("%s: of kind false, where no way leads", code.Show(i))
		}
	}
}

// P11.2: a slot that Kinds does not have is of no kind.
func TestSpareFewerKinds(t *testing.T) {
	for count := range 130 {
		for _, c := range []int{0, 1, 5, 62, 63, 64, 65, 127} {
			f := code.Func{Slots: 64, Kinds: make([]bool, count), Code: []code.Instr{poll(), set(2, 0, c)}}
			if got, want := fresh.Spare(code.Module{}, f, 1), c < count && c < 64; got != want {
				t.Errorf("slot %d of %d kinds: %v", c, count, got)
			}
		}
		f, pc := last(set(0, 0, 1))
		f.Kinds = slices.Repeat([]bool{true}, count)
		if !fresh.Spare(code.Module{}, f, pc) {
			t.Errorf("own and young, %d kinds", count)
		}
	}
	// What lies behind the list in its spare room is none of it.
	f := code.Func{Slots: 64, Kinds: make([]bool, 64)[:2], Code: []code.Instr{set(0, 0, 2)}}
	if fresh.Spare(code.Module{}, f, 0) {
		t.Errorf("in the spare room")
	}
}

// P11.2: slots out of 0 to 63: false, whatever is known of the other.
func TestSpareOutside(t *testing.T) {
	for _, slot := range []int{-1, -2, -63, -64, 64, 65, 128, 1 << 32, 1<<32 + 1, math.MinInt, math.MinInt + 1, math.MaxInt} {
		for _, op := range []int{28, 29, 31, 32} {
			for _, kind := range []bool{true, false} {
				for _, i := range []code.Instr{{Op: op, A: slot, B: 2, C: 1}, {Op: op, A: 0, B: 2, C: slot}, {Op: op, A: slot, B: 2, C: slot}} {
					f, pc := last(i)
					f.Kinds = slices.Repeat([]bool{kind}, 200)
					if fresh.Spare(code.Module{}, f, pc) {
						t.Errorf("%s, kind %v", code.Show(i), kind)
					}
				}
			}
		}
	}
	// From Slots on to 63 they have states.
	for _, count := range []int{0, 1, -1, 2, math.MinInt} {
		f, pc := last(set(0, 0, 1))
		f.Slots = count
		if !fresh.Spare(code.Module{}, f, pc) {
			t.Errorf("%d slots", count)
		}
	}
	f := function(64, made(62), made(63), set(62, 63, 63), set(63, 0, 62))
	for pc, want := range []bool{false, false, true, false} {
		if fresh.Spare(code.Module{}, f, pc) != want {
			t.Errorf("slots 62, 63: Spare(%d)", pc)
		}
	}
}

// P11.2: slot A must be own.
func TestSpareOwn(t *testing.T) {
	wantSpare(t, false, set(2, 0, 1)) // never made
	wantSpare(t, false, set(0, 0, 1), code.Instr{Op: 35, B: 0})
	wantSpare(t, false, set(0, 0, 1), set(2, 0, 0))
	wantSpare(t, false, set(0, 0, 1), moved(2, 0))
	wantSpare(t, false, set(2, 0, 1), moved(2, 0))
	wantSpare(t, false, set(0, 0, 1), moved(0, 0))
	wantSpare(t, false, set(0, 0, 1), code.Instr{Op: 27, A: 0, B: 1})
	wantSpare(t, false, set(0, 0, 1), code.Instr{Op: 34, A: 0})
	wantSpare(t, false, set(0, 0, 1), code.Instr{Op: 2, A: 0})
	wantSpare(t, true, set(0, 0, 1), code.Instr{Op: 35, B: 1}) // C need not be own
	wantSpare(t, true, set(0, 0, 2), moved(2, 1))
	wantSpare(t, true, set(0, 0, 1), set(2, 0, 1))
	// Ahead of the making it may have been handed to anybody.
	wantSpare(t, true, set(2, 0, 1), code.Instr{Op: 35, B: 2}, made(2), made(1))
	// A closure is not own; an array and a channel are.
	wantSpare(t, false, set(2, 0, 1), code.Instr{Op: 36, A: 2}, made(1))
	wantSpare(t, true, set(2, 0, 1), code.Instr{Op: 26, A: 2}, made(1))
	wantSpare(t, true, set(2, 0, 1), code.Instr{Op: 37, A: 2}, made(1))
	// A slot that is own and young may hold itself.
	wantSpare(t, true, set(1, 0, 1))
	wantSpare(t, false, set(0, 0, 0))
}

// P11.2: slot C must be young: no point between its making and the write.
func TestSpareYoung(t *testing.T) {
	wantSpare(t, false, set(1, 0, 0))
	wantSpare(t, false, set(0, 0, 2))
	for op := range 45 {
		if op == 18 || op == 22 || op == 41 || op == 44 {
			continue
		}
		wantSpare(t, !code.Point(op), set(0, 0, 1), code.Instr{Op: op, A: 7, B: 5, C: 6})
	}
	wantSpare(t, true, set(0, 0, 1), jump(3))
	m := code.Module{Cases: []code.Case{{Kind: 2, Target: 3}}}
	f, pc := last(set(0, 0, 1), choose(0, 1))
	if fresh.Spare(m, f, pc) {
		t.Errorf("behind a select")
	}
	// Each Maker makes something young.
	for _, op := range []int{25, 26, 36, 37} {
		wantSpare(t, true, set(0, 0, 2), code.Instr{Op: op, A: 2, C: 9})
		wantSpare(t, false, set(0, 0, 1), code.Instr{Op: op, A: 2, C: 9})
		wantSpare(t, false, set(0, 0, 2), code.Instr{Op: op, A: 2, C: 9}, poll())
	}
}

// P11.2: a field that was written already needs its barrier.
func TestSpareWritten(t *testing.T) {
	for _, op := range []int{28, 29} {
		for b := range 64 {
			i := code.Instr{Op: op, A: 0, B: b, C: 1}
			f, pc := last(i, set(0, b, 5))
			if fresh.Spare(code.Module{}, f, pc) {
				t.Errorf("%s: written already", code.Show(i))
			}
			f.Code[pc-1].B = 63 - b
			if !fresh.Spare(code.Module{}, f, pc) {
				t.Errorf("%s: another was written", code.Show(i))
			}
			f.Code[pc-1] = code.Instr{Op: 31, A: 0, B: 5, C: 5}
			if fresh.Spare(code.Module{}, f, pc) {
				t.Errorf("%s: all may be written", code.Show(i))
			}
		}
		// There is no such bit: it is lacking, whatever was written.
		for _, b := range []int{-1, -64, 64, 65, 70, math.MinInt, math.MaxInt} {
			i := code.Instr{Op: op, A: 0, B: b, C: 1}
			wantSpare(t, true, i)
			wantSpare(t, true, i, i)
			wantSpare(t, true, i, code.Instr{Op: 32, A: 0, B: 5, C: 5})
			wantSpare(t, true, set(0, 0, 1), i)
		}
	}
	wantSpare(t, true, set(0, 1, 1), set(1, 1, 5))
	wantSpare(t, false, set(0, 1, 1), set(0, 1, 1))
	wantSpare(t, false, set(0, 1, 1), set(0, 1, 5), set(0, 2, 5))
	// Made anew, nothing of it is written.
	wantSpare(t, true, set(0, 1, 1), set(0, 1, 5), made(0), made(1))
	// Written on one way of two.
	wantSpare(t, false, set(0, 1, 1), when(9, 4), set(0, 1, 5))
	wantSpare(t, true, set(0, 2, 1), when(9, 4), set(0, 1, 5))
}

// P11.2: a put needs none ahead of any write.
func TestSparePut(t *testing.T) {
	for _, op := range []int{31, 32} {
		for _, b := range []int{0, 5, 63} {
			put := code.Instr{Op: op, A: 0, B: b, C: 1}
			wantSpare(t, true, put)
			wantSpare(t, false, put, put)
			wantSpare(t, false, put, code.Instr{Op: 63 - op, A: 0, B: b, C: 5})
			wantSpare(t, true, put, code.Instr{Op: 31, A: 2, B: b, C: 5})
			wantSpare(t, false, put, poll())
			for _, field := range []int{0, 1, 62, 63} {
				wantSpare(t, false, put, set(0, field, 5))
				wantSpare(t, true, put, set(1, field, 5))
			}
			wantSpare(t, true, put, set(0, 64, 5))
			wantSpare(t, true, put, set(0, -1, 5))
			wantSpare(t, true, put, set(0, 1, 5), made(0), made(1))
		}
	}
}

// P11.2: it must hold on all ways that come there.
func TestSpareWays(t *testing.T) {
	wantSpare(t, false, set(0, 0, 1), when(9, 4), poll())
	wantSpare(t, true, set(0, 0, 1), when(9, 4), made(1))
	wantSpare(t, false, set(0, 0, 1), when(9, 4), code.Instr{Op: 35, B: 0})
	wantSpare(t, true, set(0, 0, 1), jump(4), poll())
	// In a loop the field was written in the turn ahead.
	f := function(3, made(0), made(1), set(0, 0, 1), when(2, 1), end())
	if fresh.Spare(code.Module{}, f, 2) {
		t.Errorf("in a loop")
	}
	f.Code[3] = when(2, 0)
	if !fresh.Spare(code.Module{}, f, 2) {
		t.Errorf("in a loop that makes it anew")
	}
	f = function(2, end(), made(0), made(1), set(0, 0, 1), end())
	if fresh.Spare(code.Module{}, f, 3) {
		t.Errorf("where no way leads")
	}
}
