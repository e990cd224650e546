package verify_test

import (
	"math"
	"strings"
	"testing"

	"gantline/code"
	"gantline/head"
	"gantline/live"
	"gantline/verify"
)

// In the yard's function 0 the slots from 0 to 3 hold numbers, those from 4 to 7 addresses.
const slotCount = 8

// yard is a module that may be run, with a function, a shape, a global, a constant and a case of each sort. A shape's number is its Kind.
func yard() code.Module {
	m := code.Module{
		Shapes:  []head.Shape{{Fields: 2, Map: 2}, {Kind: 1, Map: 1}, {Kind: 2, Fields: 1}, {Kind: 3, Map: 1}},
		Globals: []bool{false, true},
		Consts:  []int64{5, -1 << 62, 1<<62 - 1},
		Cases:   []code.Case{receives(4, 5, 2), sends(4, 0, 3), otherwise(2), receives(5, -1, 2), sends(6, 7, 3), receives(4, 0, 3)},
		Funcs: []code.Func{
			function(0, 0, 0, "nnnnaaaa", end()),
			function(2, 0, 1, "na", give(0)),                    // 1: of a number and an address, a number
			function(1, 0, 2, "ann", give(0)),                   // 2: of an address, an address
			function(0, 0, 0, "", end()),                        // 3: of nothing, nothing
			function(1, 2, 0, "nan", end()),                     // 4: catches an address and a number
			function(3, 0, 0, "nan", end()),                     // 5: of three, nothing
			function(0, 1, 2, "a", give(0)),                     // 6: catches an address, and answers it
			function(0, 0, 1, "n", code.Instr{Op: 17}, give(0)), // 7: of nothing, a number
			function(0, 0, 2, "a", code.Instr{Op: 2}, give(0)),  // 8: of nothing, an address
			function(8, 0, 0, "nnnnaaaa", end()),                // 9: as many as there are slots
			function(9, 0, 0, "nnnnaaaan", end()),               // 10: one more
			function(0, 8, 0, "nnnnaaaa", end()),                // 11: catches as many
			function(0, 9, 0, "nnnnaaaan", end()),               // 12: one more
		},
	}
	return mapped(m)
}

// function has a slot for each letter of kinds, n or a.
func function(params, caught, result int, kinds string, list ...code.Instr) code.Func {
	f := code.Func{Params: params, Caught: caught, Slots: len(kinds), Result: result, Code: list, Maps: make([]uint64, len(list))}
	for _, letter := range kinds {
		f.Kinds = append(f.Kinds, letter == 'a')
	}
	return f
}

// mapped lays each function's maps anew.
func mapped(m code.Module) code.Module {
	for n, f := range m.Funcs {
		m.Funcs[n].Maps = live.Maps(m, f)
	}
	return m
}

func end() code.Instr                { return code.Instr{Op: 22, A: -1} }
func give(slot int) code.Instr       { return code.Instr{Op: 22, A: slot} }
func poll() code.Instr               { return code.Instr{Op: 43} }
func jump(pc int) code.Instr         { return code.Instr{Op: 18, A: pc} }
func when(slot, pc int) code.Instr   { return code.Instr{Op: 19, A: slot, B: pc} }
func made(slot int) code.Instr       { return code.Instr{Op: 25, A: slot} }
func choose(at, n int) code.Instr    { return code.Instr{Op: 41, A: at, B: n} }
func otherwise(target int) code.Case { return code.Case{Kind: 2, Chan: -9, Val: 99, Target: target} }

func receives(from, to, target int) code.Case {
	return code.Case{Kind: 0, Chan: from, Val: to, Target: target}
}

func sends(to, from, target int) code.Case {
	return code.Case{Kind: 1, Chan: to, Val: from, Target: target}
}

// place is where the instruction that is asked stands in yardWith.
const place = 1

// yardWith is the yard whose function 0 is poll, i, poll, return.
func yardWith(i code.Instr) code.Module {
	m := yard()
	m.Funcs[0].Code = []code.Instr{poll(), i, poll(), end()}
	return mapped(m)
}

// edges are numbers that are no slot of 8, nor of any function.
var edges = []int{-2, -3, 8, 9, 63, 64, 65, math.MinInt, math.MinInt + 1, math.MaxInt, math.MaxInt - 1, 1 << 32, -1 << 32, 1 << 62, -1 << 62, 1<<32 + 4}

// operand is where an instruction keeps the operand of that number.
func operand(i *code.Instr, n int) *int { return []*int{&i.A, &i.B, &i.C, &i.D}[n] }

func show(m code.Module, n int) string {
	if n < 0 || n >= len(m.Funcs) {
		return "no function"
	}
	var lines []string
	for _, i := range m.Funcs[n].Code[:min(len(m.Funcs[n].Code), 60)] {
		lines = append(lines, code.Show(i))
	}
	return strings.Join(lines, "; ")
}

// wantFault wants that fault; one of noughts is none.
func wantFault(t *testing.T, where string, m code.Module, want verify.Fault) {
	t.Helper()
	none := want == verify.Fault{}
	got, ok := verify.Check(m)
	if got != want || ok != none {
		t.Errorf("%s: Check: %v, %v, want %v: %s", where, got, ok, want, show(m, max(want.Func, 0)))
	}
	if verify.Module(m) != none {
		t.Errorf("%s: Module: %v", where, !none)
	}
	if plain := plainCheck(m); plain != want {
		t.Errorf("%s: the plain reckoning: %v, want %v", where, plain, want)
	}
}

func wantGood(t *testing.T, where string, m code.Module) {
	t.Helper()
	wantFault(t, where, m, verify.Fault{})
}

// wantRule wants that rule to be the first that the instruction breaks in the yard: 0 is none.
func wantRule(t *testing.T, rule int, i code.Instr) {
	t.Helper()
	wantRuleIn(t, rule, yardWith(i), i)
}

// wantRuleIn likewise in a module with the instruction at its place.
func wantRuleIn(t *testing.T, rule int, m code.Module, i code.Instr) {
	t.Helper()
	want := verify.Fault{Func: 0, PC: place, Rule: rule}
	if rule == 0 {
		want = verify.Fault{}
	}
	wantFault(t, code.Show(i), m, want)
}

// The yard is such that nothing is wrong there but what a test lays in.
func TestYard(t *testing.T) {
	wantGood(t, "the yard", yard())
	wantRule(t, 0, poll())
	for n, f := range yard().Funcs {
		if len(f.Kinds) != f.Slots || n == 0 && f.Slots != slotCount {
			t.Errorf("function %d has %d slots", n, f.Slots)
		}
	}
}
