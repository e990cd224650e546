package fresh_test

import (
	"math"
	"strings"
	"testing"

	"gantline/code"
	"gantline/fresh"
)

// Instructions that many tests ask for.
func made(slot int) code.Instr       { return code.Instr{Op: 25, A: slot} }
func moved(a, b int) code.Instr      { return code.Instr{Op: 1, A: a, B: b} }
func set(a, b, c int) code.Instr     { return code.Instr{Op: 28, A: a, B: b, C: c} }
func jump(pc int) code.Instr         { return code.Instr{Op: 18, A: pc} }
func when(slot, pc int) code.Instr   { return code.Instr{Op: 19, A: slot, B: pc} }
func poll() code.Instr               { return code.Instr{Op: 43} }
func end() code.Instr                { return code.Instr{Op: 22, A: -1} }
func choose(a, count int) code.Instr { return code.Instr{Op: 41, A: a, B: count} }

// P11.1: the example, and no code at all.
func TestSetsPlainly(t *testing.T) {
	wantSets(t, "the example", code.Module{}, function(2, made(0), made(1), set(0, 0, 1), end()), "- -", "YO -", "O YO", "O1 Y")
	wantSets(t, "a poll", code.Module{}, function(2, made(0), made(1), poll(), set(0, 0, 1), end()), "- -", "YO -", "O YO", "O O", "O1 -")
	for _, count := range []int{0, 3, -1, 64, 65, math.MaxInt, math.MinInt} {
		for _, list := range [][]code.Instr{nil, {}, []code.Instr{made(0)}[:0]} {
			if got := fresh.Sets(yard(), code.Func{Slots: count, Code: list}); len(got) != 0 {
				t.Errorf("%d slots, no code: %v", count, got)
			}
		}
	}
}

// P11.1: as many states as there are slots, at most 64.
func TestSetsSlots(t *testing.T) {
	for count, want := range map[int]int{0: 0, 1: 1, 2: 2, 63: 63, 64: 64, 65: 64, 128: 64, 1 << 32: 64, 1<<32 + 1: 64, math.MaxInt: 64, -1: 0, -64: 0, math.MinInt: 0, math.MinInt + 1: 0} {
		f := code.Func{Slots: count, Code: []code.Instr{made(0), made(63), set(63, 9, 1), end(), poll()}}
		sets := fresh.Sets(code.Module{}, f)
		if len(sets) != 5 {
			t.Fatalf("%d slots: %d lists", count, len(sets))
		}
		for pc, list := range sets {
			if len(list) != want {
				t.Errorf("%d slots, at %d: %d states", count, pc, len(list))
			}
		}
		if want > 0 && (sets[1][0] != fresh.State{Young: true, Own: true} || sets[2][0] == sets[1][0] && want > 1) {
			t.Errorf("%d slots: %s", count, tellAll(sets))
		}
		if want == 64 && (sets[2][63] != fresh.State{Young: true, Own: true} || sets[3][63] != fresh.State{Young: true, Own: true, Written: 1 << 9}) {
			t.Errorf("%d slots: %s", count, tellAll(sets))
		}
	}
}

// P11.1: how many Kinds, Params, Caught and Maps there are says nothing of the states.
func TestSetsAsksCodeAlone(t *testing.T) {
	f := function(3, made(0), made(1), set(0, 0, 1), end())
	want := fresh.Sets(code.Module{}, f)
	for _, kinds := range [][]bool{nil, {false}, {true, false, true}, make([]bool, 90)} {
		g := code.Func{Params: 2, Caught: 1, Slots: 3, Result: 1, Kinds: kinds, Code: f.Code, Maps: []uint64{7, 7}}
		if got := fresh.Sets(yard(), g); !sameSets(got, want) {
			t.Errorf("kinds %v: %s, want %s", kinds, tellAll(got), tellAll(want))
		}
	}
}

// P11.1: states are of the slots from 0 to 63, and those that the function has are told.
func TestSetsFromSlotsOn(t *testing.T) {
	for _, slot := range []int{2, 3, 62, 63} {
		wantSets(t, "young in a slot that is not told", code.Module{}, function(2, made(slot), moved(0, slot), end()), "- -", "- -", "Y -")
		wantSets(t, "moved there", code.Module{}, function(2, made(0), moved(slot, 0), poll(), end()), "- -", "YO -", "Y -", "- -")
		wantSets(t, "written there", code.Module{}, function(2, made(0), set(slot, 1, 0), end()), "- -", "YO -", "Y -")
	}
	for _, slot := range []int{-1, -2, -63, -64, 64, 65, 128, 1 << 32, math.MinInt, math.MaxInt} {
		wantSets(t, "no slot: made", code.Module{}, function(2, made(slot), moved(0, slot), end()), "- -", "- -", "- -")
		wantSets(t, "no slot: moved", code.Module{}, function(2, made(0), moved(slot, 0), moved(1, slot), end()), "- -", "YO -", "Y -", "Y -")
		wantSets(t, "no slot: set", code.Module{}, function(2, made(0), set(slot, 1, 0), end()), "- -", "YO -", "Y -")
		wantSets(t, "no slot: got", code.Module{}, function(2, made(0), code.Instr{Op: 27, A: slot}, code.Instr{Op: 39, A: slot, B: slot, C: slot}, end()), "- -", "YO -", "YO -", "O -")
		m := code.Module{Cases: []code.Case{{Kind: 0, Chan: slot, Val: slot, Target: 2}, {Kind: 1, Chan: slot, Val: slot, Target: 2}}}
		wantSets(t, "no slot: select", m, function(2, made(0), choose(0, 2), end()), "- -", "YO -", "O -")
	}
}

// P11.1: where ways meet with other states on each.
func TestSetsMeet(t *testing.T) {
	two := func(left, right code.Instr) code.Func {
		return function(3, made(0), when(2, 4), left, jump(5), right, end())
	}
	wantMet := func(left, right code.Instr, want string) {
		t.Helper()
		f := two(left, right)
		if got := tell(fresh.Sets(code.Module{}, f)[5]); got != want {
			t.Errorf("%s: %s, want %s", show(f), got, want)
		}
		g := two(right, left)
		if got := tell(fresh.Sets(code.Module{}, g)[5]); got != want {
			t.Errorf("%s: %s, want %s", show(g), got, want)
		}
		wantPlain(t, "met", code.Module{}, f)
		wantPlain(t, "met", code.Module{}, g)
	}
	nothing := code.Instr{Op: 42, A: 2}
	wantMet(nothing, nothing, "YO - -")
	wantMet(made(0), nothing, "YO - -")
	wantMet(made(0), made(0), "YO - -")
	wantMet(made(0), made(1), "O - -")
	wantMet(made(1), made(1), "O YO -")
	wantMet(nothing, poll(), "O - -")
	wantMet(nothing, code.Instr{Op: 35, B: 0}, "Y - -")
	wantMet(poll(), code.Instr{Op: 35, B: 0}, "- - -")
	wantMet(nothing, code.Instr{Op: 2, A: 0}, "- - -")
	wantMet(set(0, 1, 1), nothing, "YO2 - -")
	wantMet(set(0, 1, 1), set(0, 4, 1), "YO12 - -")
	wantMet(set(0, 1, 1), set(1, 4, 2), "YO2 10 -")
	wantMet(set(0, 1, 1), made(0), "YO2 - -")
	wantMet(set(0, 1, 1), code.Instr{Op: 31, A: 0, C: 1}, "YOffffffffffffffff - -")
	wantMet(moved(1, 0), nothing, "Y - -")
	wantMet(moved(1, 0), made(1), "- Y -")
	wantMet(moved(1, 0), moved(1, 0), "Y Y -")
	// A way that does not come there says nothing.
	wantMet(code.Instr{Op: 44, A: 1}, set(0, 1, 1), "YO2 - -")
	wantMet(code.Instr{Op: 22, A: 0}, nothing, "YO - -")
	wantMet(code.Instr{Op: 22, A: 0}, code.Instr{Op: 22, A: 0}, "- - -")
}

// P11.1: loops, also one in another: what is lost in a turn is lost ahead of it.
func TestSetsLoops(t *testing.T) {
	wantSets(t, "nothing is lost", code.Module{}, function(2, made(0), set(0, 0, 1), when(1, 1), end()), "- -", "YO1 -", "YO1 -", "YO1 -")
	wantSets(t, "a poll", code.Module{}, function(2, made(0), poll(), when(1, 1), end()), "- -", "O -", "O -", "O -")
	wantSets(t, "handed out at its end", code.Module{}, function(2, made(0), set(0, 2, 1), code.Instr{Op: 35, B: 0}, jump(1)), "- -", "Y4 -", "Y4 -", "Y4 -")
	wantSets(t, "made anew", code.Module{}, function(2, made(0), set(0, 2, 1), made(0), jump(1)), "- -", "YO -", "YO4 -", "YO -")
	wantSets(t, "one behind another", code.Module{}, function(3, made(0), moved(2, 1), moved(1, 0), when(2, 1), end()), "- - -", "Y - -", "Y - -", "Y Y -", "Y Y -")
	wantSets(t, "handed on turn by turn", code.Module{}, function(3, made(0), moved(1, 0), moved(2, 0), moved(2, 1), moved(1, 0), code.Instr{Op: 2, A: 0}, jump(3)),
		"- - -", "YO - -", "Y Y -", "- - -", "- - -", "- - -", "- - -")
	wantSets(t, "one in another", code.Module{}, function(3,
		made(0),
		poll(), // the outer loop
		made(1),
		set(1, 0, 2), // the inner one
		when(2, 3),
		set(0, 1, 1),
		when(2, 1),
		end()), "- - -", "O2 1 -", "O2 1 -", "O2 YO1 -", "O2 YO1 -", "O2 YO1 -", "O2 Y1 -", "O2 Y1 -")
}

// P11.1: at the first instruction none is young or own, though a way comes back to it.
func TestSetsFirst(t *testing.T) {
	wantSets(t, "jump", code.Module{}, function(2, made(0), jump(0)), "- -", "YO -")
	wantSets(t, "if", code.Module{}, function(2, made(0), when(1, 0), end()), "- -", "YO -", "YO -")
	wantSets(t, "another slot", code.Module{}, function(2, made(0), made(1), jump(0)), "- -", "YO -", "O YO")
	wantSets(t, "to itself", code.Module{}, function(2, jump(0)), "- -")
	wantSets(t, "if to itself", code.Module{}, function(2, when(0, 0), end()), "- -", "- -")
	wantSets(t, "select", code.Module{Cases: []code.Case{{Kind: 2, Target: 0}, {Kind: 2, Target: 2}}}, function(2, made(0), choose(0, 2), end()), "- -", "YO -", "O -")
	// Two ways meet there: of fields that were written, either may have been.
	wantSets(t, "written", code.Module{}, function(2, made(0), set(0, 3, 1), set(1, 2, 1), jump(0)), "8 4", "YO 4", "YO8 4", "YO8 4")
}

// P11.1: instructions that no way reaches have nothing, and tell nobody anything.
func TestSetsUnreached(t *testing.T) {
	wantSets(t, "behind a jump", code.Module{}, function(2, made(0), jump(4), made(1), set(0, 5, 1), end()), "- -", "YO -", "- -", "- -", "YO -")
	wantSets(t, "behind a return", code.Module{}, function(2, end(), made(0), set(0, 0, 1), end()), "- -", "- -", "- -", "- -")
	wantSets(t, "behind a trap", code.Module{}, function(2, made(0), code.Instr{Op: 44, A: 1}, poll()), "- -", "YO -", "- -")
	wantSets(t, "they go to what is reached", code.Module{}, function(2, made(0), jump(5), poll(), set(0, 5, 0), jump(5), end()), "- -", "YO -", "- -", "- -", "- -", "YO -")
	wantSets(t, "a loop of its own", code.Module{}, function(2, end(), made(0), set(0, 1, 1), jump(1)), "- -", "- -", "- -", "- -")
	wantSets(t, "they go to the first", code.Module{}, function(2, made(0), end(), set(0, 1, 1), jump(0)), "- -", "YO -", "- -", "- -")
	for _, pc := range []int{-1, 4, 5, math.MinInt, math.MaxInt, 1 << 32} {
		m := code.Module{Cases: []code.Case{{Kind: 2, Target: pc}, {Kind: 2, Target: 3}}}
		wantSets(t, "a jump out", m, function(1, made(0), jump(pc), poll(), end()), "-", "YO", "-", "-")
		wantSets(t, "an if out", m, function(1, made(0), when(0, pc), poll(), end()), "-", "YO", "YO", "O")
		wantSets(t, "a select out", m, function(1, made(0), choose(0, 1), poll(), end()), "-", "YO", "-", "-")
		wantSets(t, "a select half out", m, function(1, made(0), choose(0, 2), poll(), end()), "-", "YO", "-", "O")
	}
	wantSets(t, "behind the end", code.Module{}, function(1, made(0), poll()), "-", "YO")
	// What lies behind the code in its spare room is none of it.
	f := function(1, made(0), poll(), made(0), end())
	f.Code = f.Code[:2]
	wantSets(t, "spare room", code.Module{}, f, "-", "YO")
}

// P11.1: a select's ways, each with the same states, whichever case they are of.
func TestSetsSelectWays(t *testing.T) {
	f := function(4, made(0), made(1), made(2), choose(0, 3), end(), end(), end())
	ahead := []string{"- - - -", "YO - - -", "O YO - -", "O O YO -"}
	want := func(where string, m code.Module, behind ...string) {
		t.Helper()
		wantSets(t, where, m, f, append(ahead[:4:4], behind...)...)
	}
	three := func(a, b, c code.Case) code.Module { return code.Module{Cases: []code.Case{a, b, c}} }
	receive := code.Case{Kind: 0, Chan: 3, Val: 0, Target: 4}
	other := code.Case{Kind: 2, Target: 6}
	const nowhere = "- - - -"
	want("received", three(receive, code.Case{Kind: 0, Chan: 3, Val: 1, Target: 5}, other), "- - O -", "- - O -", "- - O -")
	want("received on several ways", three(receive, code.Case{Kind: 0, Chan: 3, Val: 0, Target: 5}, other), "- O O -", "- O O -", "- O O -")
	want("sent", three(receive, code.Case{Kind: 1, Chan: 3, Val: 1, Target: 5}, other), "- - O -", "- - O -", "- - O -")
	want("sent and received", three(receive, code.Case{Kind: 1, Chan: 3, Val: 0, Target: 5}, other), "- O O -", "- O O -", "- O O -")
	want("all to one place", three(receive, code.Case{Kind: 1, Chan: 3, Val: 1, Target: 4}, code.Case{Kind: 2, Target: 4}), "- - O -", nowhere, nowhere)
	want("to none", three(code.Case{Kind: 0, Chan: 3, Val: -1, Target: 4}, code.Case{Kind: 3, Val: 0, Target: 5}, other), "O O O -", "O O O -", "O O O -")
	want("a way out", three(code.Case{Kind: 0, Val: 2, Target: 7}, code.Case{Kind: 1, Val: 1, Target: -1}, other), nowhere, nowhere, "O - - -")
	want("not all there", code.Module{Cases: []code.Case{receive, other}}, nowhere, nowhere, nowhere)
	want("none there", code.Module{}, nowhere, nowhere, nowhere)
}

// P11.1: code that is a long line of ways that part and meet.
func TestSetsDiamonds(t *testing.T) {
	f := function(3, made(0))
	for b := range 64 {
		f.Code = append(f.Code, when(2, len(f.Code)+2), set(0, b, 1))
	}
	f.Code = append(f.Code, end())
	sets := fresh.Sets(code.Module{}, f)
	for b := range 64 {
		if got, want := sets[1+2*b][0], (fresh.State{Young: true, Own: true, Written: 1<<b - 1}); got != want {
			t.Errorf("ahead of %d: %v, want %v", b, got, want)
		}
	}
	if got := tell(sets[len(sets)-1]); got != "YO"+strings.Repeat("f", 16)+" - -" {
		t.Errorf("at the end: %s", got)
	}
	wantPlain(t, "diamonds", code.Module{}, f)
}

// P11.1: all code of three instructions out of these.
func TestSetsThree(t *testing.T) {
	m := code.Module{Cases: []code.Case{{Chan: 0, Val: 1, Target: 0}, {Kind: 1, Chan: 1, Val: 0, Target: 2}, {Chan: 2, Val: 0, Target: 1}, {Kind: 2, Target: 3}}, Funcs: []code.Func{{Params: 1, Caught: 1}}}
	list := []code.Instr{
		made(0), made(1), moved(1, 0), moved(0, 1), set(0, 1, 1), set(1, 0, 0), {Op: 31, A: 0, C: 1}, {Op: 35, B: 0}, {Op: 2, A: 0},
		jump(0), jump(1), jump(2), jump(3), when(1, 0), when(0, 2), when(0, 1), end(), {Op: 20, A: 1, B: 0, C: 0}, {Op: 36, A: 1, C: 0},
		choose(0, 1), choose(0, 3), choose(1, 2), choose(2, 2), choose(3, 2), poll(), {Op: 44},
	}
	f := function(2)
	f.Code = make([]code.Instr, 5)
	f.Code[0], f.Code[4] = made(0), end()
	for _, f.Code[1] = range list {
		for _, f.Code[2] = range list {
			for _, f.Code[3] = range list {
				if got, want := fresh.Sets(m, f), plainSets(m, f); !sameSets(got, want) {
					t.Fatalf("Sets of %s: %s, want %s", show(f), tellAll(got), tellAll(want))
				}
			}
		}
	}
}
