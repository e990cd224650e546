package fresh_test

import (
	"math"
	"strconv"
	"testing"

	"gantline/code"
	"gantline/fresh"
	"gantline/live"
)

// dice tells numbers that look like chance, and are always the same.
type dice uint64

func (d *dice) below(n int) int {
	*d = *d*6364136223846793005 + 1442695040888963407
	return int(uint64(*d) >> 33 % uint64(n))
}

func (d *dice) one(of ...int) int { return of[d.below(len(of))] }

// number is below n as a rule, and sometimes at an edge.
func (d *dice) number(n int) int {
	if d.below(15) > 0 {
		return d.below(n)
	}
	return d.one(-1, -2, n, n+1, 63, 64, math.MinInt, math.MaxInt)
}

// instr is one whose places, functions and cases are there as a rule, and mostly one that makes, moves or writes.
func (d *dice) instr(size, count, cases int) code.Instr {
	i := code.Instr{Op: d.below(45), A: d.number(count), B: d.number(count), C: d.number(count), D: d.number(4)}
	if d.below(4) > 0 {
		i.Op = d.one(1, 1, 18, 19, 19, 25, 25, 25, 26, 28, 28, 28, 29, 31, 32, 36, 37, 41)
	}
	switch code.Name(i.Op) {
	case "jump":
		i.A = d.number(size)
	case "if":
		i.B = d.number(size)
	case "select":
		first := d.below(cases)
		i.A, i.B = first, d.number(cases-first+1)
		if d.below(12) == 0 {
			i.A = d.number(cases)
		}
	case "call", "closure":
		i.B = d.number(4)
	case "go":
		i.A = d.number(4)
	}
	if d.below(50) == 0 {
		i.Op = d.one(-1, 45, 46, math.MaxInt, math.MinInt)
	}
	return i
}

// module is one of up to 24 instructions, with its function.
func (d *dice) module() (code.Module, code.Func) {
	size, count, cases := d.below(25), d.one(2, 3, 6, 12, 70), 1+d.below(12)
	var m code.Module
	for range cases {
		m.Cases = append(m.Cases, code.Case{Kind: d.number(3), Chan: d.number(count), Val: d.number(count), Target: d.number(size + 1)})
	}
	for range 4 {
		m.Funcs = append(m.Funcs, code.Func{Params: d.number(5), Caught: d.number(5)})
	}
	f := code.Func{Slots: count}
	if d.below(8) == 0 {
		f.Slots = d.number(70)
	}
	for range size {
		f.Code = append(f.Code, d.instr(size, count, cases))
	}
	if pc := d.below(20); pc+2 < size {
		// Something that may be spare, where no way breaks in.
		a, c := d.below(count), d.below(count)
		f.Code[pc], f.Code[pc+1] = made(a), code.Instr{Op: d.one(25, 26, 36, 37), A: c}
		f.Code[pc+2] = code.Instr{Op: d.one(28, 29, 31, 32), A: a, B: d.number(4), C: c}
	}
	for range d.below(80) {
		f.Kinds = append(f.Kinds, d.below(8) > 0)
	}
	return m, f
}

// P11.1, P11.2: against the plain reckoning, over many modules.
func TestChance(t *testing.T) {
	d := dice(11)
	for n := range 4000 {
		m, f := d.module()
		where := "module " + strconv.Itoa(n)
		wantPlain(t, where, m, f)
		for _, pc := range []int{-1, len(f.Code), d.number(25)} {
			if got := fresh.Spare(m, f, pc); got != plainSpare(m, f, pc) {
				t.Fatalf("%s: Spare(%d): %v", where, pc, got)
			}
		}
	}
}

// P11.1: what is said to be young or own is so on each way that is gone step by step from the first instruction on, and what was written on it is said.
func TestChanceWalks(t *testing.T) {
	d := dice(110)
	for n := range 2000 {
		m, f := d.module()
		if len(f.Code) == 0 {
			continue
		}
		f.Slots = 64
		sets := fresh.Sets(m, f)
		for range 10 {
			var s slots
			for pc, steps := 0, 0; steps < 60; steps++ {
				for slot, x := range sets[pc] {
					if x.Young && !s[slot].Young || x.Own && !s[slot].Own || s[slot].Written&^x.Written != 0 {
						t.Fatalf("module %d, %s: slot %d at %d: %v, but %v on a way", n, show(f), slot, pc, x, s[slot])
					}
				}
				next := live.Follows(m, f, pc)
				if len(next) == 0 {
					break
				}
				s = plainBehind(m, f.Code[pc], s)
				pc = d.one(next...)
			}
		}
	}
}

// The modules are such that much is known, by many ways.
func TestChanceIsRich(t *testing.T) {
	d, own, young, written, loops, spare, not := dice(11), 0, 0, 0, 0, 0, 0
	for range 1000 {
		m, f := d.module()
		for pc, list := range fresh.Sets(m, f) {
			for _, x := range list {
				if x.Own {
					own++
				}
				if x.Young {
					young++
				}
				if x.Own && x.Written != 0 {
					written++
				}
			}
			for _, next := range live.Follows(m, f, pc) {
				if next <= pc {
					loops++
				}
			}
			i := f.Code[pc]
			if i.C < 0 || i.C >= len(f.Kinds) || !f.Kinds[i.C] {
				continue
			}
			if fresh.Spare(m, f, pc) {
				spare++
			} else if code.Name(i.Op) == "set" || code.Name(i.Op) == "put" {
				not++
			}
		}
	}
	if own < 1000 || young < 500 || written < 200 || loops < 1000 || spare < 50 || not < 500 {
		t.Errorf("%d own, %d young, %d own and written, %d ways back, %d spare, %d not", own, young, written, loops, spare, not)
	}
}
