package live_test

import (
	"math"
	"slices"
	"strconv"
	"testing"

	"gantline/code"
	"gantline/live"
)

// dice tells numbers that look like chance, and are always the same.
type dice uint64

func (d *dice) below(n int) int {
	*d = *d*6364136223846793005 + 1442695040888963407
	return int(uint64(*d) >> 33 % uint64(n))
}

func (d *dice) one(of ...int) int { return of[d.below(len(of))] }

// number is below n as a rule, and sometimes at an edge.
func (d *dice) number(n int) int {
	if d.below(12) > 0 {
		return d.below(n)
	}
	return d.one(-1, -2, n, n+1, 63, 64, math.MinInt, math.MaxInt)
}

// instr is one whose places, functions and cases are there as a rule.
func (d *dice) instr(size, slots, cases int) code.Instr {
	i := code.Instr{Op: d.below(45), A: d.number(slots), B: d.number(slots), C: d.number(slots), D: d.number(4)}
	if d.below(2) == 0 {
		i.Op = d.one(0, 1, 3, 18, 19, 19, 22, 39, 41, 41, 41, 42)
	}
	switch code.Name(i.Op) {
	case "jump":
		i.A = d.number(size)
	case "if":
		i.B = d.number(size)
	case "select":
		first := d.below(cases)
		i.A, i.B = first, d.number(cases-first+1)
		if d.below(12) == 0 {
			i.A = d.number(cases)
		}
	case "call", "closure":
		i.B = d.number(4)
	case "go":
		i.A = d.number(4)
	}
	if d.below(50) == 0 {
		i.Op = d.one(-1, 45, 46, math.MaxInt, math.MinInt)
	}
	return i
}

// module is one of up to 24 instructions, with its function.
func (d *dice) module() (code.Module, code.Func) {
	size, slots, cases := d.below(25), d.one(3, 6, 12, 70), 1+d.below(12)
	var m code.Module
	for range cases {
		m.Cases = append(m.Cases, code.Case{Kind: d.number(3), Chan: d.number(slots), Val: d.number(slots), Target: d.number(size + 1)})
	}
	for range 4 {
		m.Funcs = append(m.Funcs, code.Func{Params: d.number(5), Caught: d.number(5)})
	}
	var f code.Func
	for range size {
		f.Code = append(f.Code, d.instr(size, slots, cases))
	}
	for range d.below(80) {
		f.Kinds = append(f.Kinds, d.below(2) == 0)
	}
	return m, f
}

// P10.1, P10.2, P10.3: against the plain reckoning, over many modules.
func TestChance(t *testing.T) {
	d := dice(10)
	for n := range 6000 {
		m, f := d.module()
		wantPlain(t, "module "+strconv.Itoa(n), m, f)
		for _, pc := range []int{-1, len(f.Code), d.number(25)} {
			if got, want := live.Follows(m, f, pc), plainFollows(m, f, pc); !slices.Equal(got, want) {
				t.Fatalf("module %d: Follows(%d): %v, want %v", n, pc, got, want)
			}
		}
	}
}

// The modules are such that much is read later, by many ways.
func TestChanceIsRich(t *testing.T) {
	d, ones, loops, received := dice(10), 0, 0, 0
	for range 1000 {
		m, f := d.module()
		for pc, set := range live.Sets(m, f) {
			if set != 0 {
				ones++
			}
			for _, next := range live.Follows(m, f, pc) {
				if next <= pc {
					loops++
				}
			}
			for _, c := range plainCases(m, f.Code[pc]) {
				if f.Code[pc].Op == 41 && c.Kind == 0 && c.Val >= 0 && c.Val < 64 {
					received++
				}
			}
		}
	}
	if ones < 5000 || loops < 1000 || received < 500 {
		t.Errorf("%d sets with something, %d ways back, %d cases that receive", ones, loops, received)
	}
}
