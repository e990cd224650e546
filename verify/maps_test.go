package verify_test

import (
	"math"
	"strconv"
	"testing"

	"gantline/code"
)

// works is the yard whose function 0 has slots that are live over loops, calls and selects.
func works() code.Module {
	m := yard()
	m.Funcs[0].Code = []code.Instr{
		{Op: 0, A: 0, B: 0},
		made(4),
		{Op: 26, A: 5, B: 1, C: 0},
		poll(),
		{Op: 28, A: 4, B: 1, C: 5},
		{Op: 37, A: 6, B: 3, C: 0},
		choose(0, 2),
		{Op: 20, A: 7, B: 2, C: 4},
		when(0, 3),
		{Op: 38, A: 6, B: 7},
		end(),
	}
	m.Cases = []code.Case{receives(6, 4, 7), otherwise(8)}
	return mapped(m)
}

// P12.1, rule 9: each map at each instruction, with a bit too many, one too few, and others.
func TestWrongMap(t *testing.T) {
	wantGood(t, "the works", works())
	seen := 0
	for n, f := range works().Funcs {
		for pc := range f.Code {
			for bit := range 64 {
				m := works()
				m.Funcs[n].Maps[pc] ^= 1 << bit
				wantFault(t, "bit "+strconv.Itoa(bit), m, fault(n, pc, 9))
			}
			for _, v := range []uint64{0, math.MaxUint64, ^f.Maps[pc], f.Maps[pc] + 1, f.Maps[pc] << 1} {
				m := works()
				if v == f.Maps[pc] {
					continue
				}
				seen++
				m.Funcs[n].Maps[pc] = v
				wantFault(t, "a map of "+strconv.FormatUint(v, 16), m, fault(n, pc, 9))
			}
		}
	}
	if seen < 80 {
		t.Errorf("%d maps", seen)
	}
	// Numbers that are live do not stand in a map: live's are of addresses alone.
	m := yard()
	m.Funcs[1].Maps[0] = 1
	wantFault(t, "a number's bit", m, fault(1, 0, 9))
}

// P12.1, rule 9: by hand.
func TestMapsByHand(t *testing.T) {
	m := code.Module{Globals: []bool{true}, Funcs: []code.Func{function(0, 0, 0, "aan",
		code.Instr{Op: 34, A: 0, B: 0},
		code.Instr{Op: 2, A: 1},
		code.Instr{Op: 16, A: 2, B: 0, C: 1},
		code.Instr{Op: 42, A: 2},
		code.Instr{Op: 35, A: 0, B: 1},
		end())}}
	m.Funcs[0].Maps = []uint64{0, 1, 3, 2, 2, 0}
	wantGood(t, "by hand", m)
	m.Funcs[0].Maps = []uint64{0, 1, 3, 6, 2, 0}
	wantFault(t, "with the number's", m, fault(0, 3, 9))
	m.Funcs[0].Maps = []uint64{0, 1, 3, 3, 2, 0}
	wantFault(t, "with what is read no more", m, fault(0, 3, 9))
	m.Funcs[0].Maps = make([]uint64, 6)
	wantFault(t, "noughts", m, fault(0, 1, 9))
}

// written is the yard whose function 0 does this, and returns.
func written(list ...code.Instr) code.Module {
	m := yard()
	m.Funcs[0].Code = append(list, end())
	return mapped(m)
}

func setn(a, b, c int) code.Instr { return code.Instr{Op: 29, A: a, B: b, C: c} }
func putn(a, b, c int) code.Instr { return code.Instr{Op: 32, A: a, B: b, C: c} }

// P12.1, rule 10: a setn, putn is Spare, as the last instruction ahead of the return.
func TestSpare(t *testing.T) {
	array := code.Instr{Op: 26, A: 4, B: 1, C: 0}
	store := func(slot int) code.Instr { return code.Instr{Op: 35, A: 1, B: slot} }
	for k, c := range []struct {
		spare bool
		list  []code.Instr
	}{
		{true, []code.Instr{made(4), made(5), setn(4, 0, 5)}},
		{true, []code.Instr{made(4), made(5), setn(4, 1, 5)}},
		{true, []code.Instr{made(5), setn(5, 0, 5)}},
		{true, []code.Instr{array, made(5), putn(4, 0, 5)}},
		{true, []code.Instr{made(4), array, {Op: 25, A: 5}, putn(4, 3, 5)}},
		{false, []code.Instr{made(4), made(5), poll(), setn(4, 0, 5)}},
		{false, []code.Instr{array, made(5), poll(), putn(4, 0, 5)}},
		{false, []code.Instr{made(5), made(4), setn(4, 0, 5)}},
		{false, []code.Instr{made(5), array, putn(4, 0, 5)}},
		{false, []code.Instr{made(5), setn(4, 0, 5)}},
		{false, []code.Instr{made(5), putn(4, 0, 5)}},
		{false, []code.Instr{made(4), {Op: 2, A: 5}, setn(4, 0, 5)}},
		{false, []code.Instr{array, {Op: 2, A: 5}, putn(4, 0, 5)}},
		{false, []code.Instr{made(4), store(4), made(5), setn(4, 0, 5)}},
		{false, []code.Instr{made(4), made(5), store(4), setn(4, 0, 5)}},
		{true, []code.Instr{made(4), made(5), store(5), setn(4, 0, 5)}},
		{false, []code.Instr{array, made(5), store(4), putn(4, 0, 5)}},
		{true, []code.Instr{array, made(5), store(5), putn(4, 0, 5)}},
		// A field that was written, or any element.
		{false, []code.Instr{made(4), made(5), {Op: 28, A: 4, B: 0, C: 6}, setn(4, 0, 5)}},
		{true, []code.Instr{made(4), made(5), {Op: 28, A: 4, B: 1, C: 6}, setn(4, 0, 5)}},
		{true, []code.Instr{made(4), made(5), setn(4, 0, 5), setn(4, 1, 5)}},
		{false, []code.Instr{made(4), made(5), setn(4, 0, 5), setn(4, 0, 5)}},
		{false, []code.Instr{made(4), made(5), {Op: 28, A: 4, B: 63, C: 6}, setn(4, 63, 5)}},
		{true, []code.Instr{made(4), made(5), {Op: 28, A: 4, B: 62, C: 6}, setn(4, 63, 5)}},
		{true, []code.Instr{made(4), made(5), setn(4, 64, 5), setn(4, 64, 5)}},
		{true, []code.Instr{made(4), made(5), {Op: 31, A: 4, B: 0, C: 6}, setn(4, -1, 5)}},
		{true, []code.Instr{made(4), made(5), {Op: 31, A: 4, B: 0, C: 6}, setn(4, math.MinInt, 5)}},
		{true, []code.Instr{made(4), made(5), {Op: 31, A: 4, B: 0, C: 6}, setn(4, math.MaxInt, 5)}},
		{false, []code.Instr{made(4), made(5), {Op: 31, A: 4, B: 0, C: 6}, setn(4, 7, 5)}},
		{false, []code.Instr{array, made(5), putn(4, 0, 5), putn(4, 1, 5)}},
		{false, []code.Instr{array, made(5), {Op: 28, A: 4, B: 9, C: 6}, putn(4, 1, 5)}},
		{false, []code.Instr{array, made(5), {Op: 28, A: 4, B: 63, C: 0}, putn(4, 1, 5)}},
		// A number needs no barrier, whatever is known of the object.
		{true, []code.Instr{setn(4, 0, 3)}},
		{true, []code.Instr{putn(7, 0, 0)}},
		{true, []code.Instr{poll(), setn(7, 99, 0), setn(7, 99, 0), putn(4, 3, 3), putn(4, 3, 3)}},
		// Where ways meet.
		{false, []code.Instr{made(4), made(5), when(0, 4), poll(), setn(4, 0, 5)}},
		{true, []code.Instr{made(4), made(5), when(0, 4), made(5), setn(4, 0, 5)}},
		{true, []code.Instr{made(4), made(5), jump(4), poll(), setn(4, 0, 5)}},
		// Where no way leads, nothing is known.
		{false, []code.Instr{end(), made(4), made(5), setn(4, 0, 5)}},
		{true, []code.Instr{end(), setn(4, 0, 0)}},
	} {
		m := written(c.list...)
		pc := len(c.list) - 1
		where := "number " + strconv.Itoa(k)
		if c.spare {
			wantGood(t, where, m)
		} else {
			wantFault(t, where, m, fault(0, pc, 10))
		}
		// With its barrier it is always well.
		m.Funcs[0].Code[pc].Op--
		wantGood(t, where+", with its barrier", m)
	}
}

// P12.1, rule 10: each setn is asked at its own place, in each function.
func TestSpareByPlace(t *testing.T) {
	m := written(made(4), made(5), setn(4, 0, 5), made(6), setn(4, 1, 6), setn(5, 0, 6), made(7), setn(6, 1, 7), made(7), setn(7, 0, 7), setn(7, 1, 7))
	// 5 and 6 have been handed to 4; 7, made anew, to itself.
	for _, pc := range []int{5, 7, 10} {
		wantFault(t, "the first that is not", m, fault(0, pc, 10))
		m.Funcs[0].Code[pc].Op = 28
	}
	wantGood(t, "with their barriers", m)
	m.Funcs[3] = function(0, 0, 0, "aa", made(0), made(1), setn(1, 0, 0), end())
	wantFault(t, "in another function", mapped(m), fault(3, 2, 10))
	m.Funcs[3].Code[2] = setn(0, 0, 1)
	wantGood(t, "in another function", mapped(m))
}
