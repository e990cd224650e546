package live_test

import (
	"math"
	"slices"
	"testing"

	"gantline/code"
	"gantline/live"
)

// among is a function whose instruction 3 of 7 is the one told.
func among(i code.Instr) code.Func {
	poll := code.Instr{Op: 43}
	return code.Func{Code: []code.Instr{poll, poll, poll, i, poll, poll, poll}}
}

func wantFollows(t *testing.T, m code.Module, f code.Func, pc int, want ...int) {
	t.Helper()
	if got := live.Follows(m, f, pc); !slices.Equal(got, want) {
		t.Errorf("Follows(%d) of %v: %v, want %v", pc, f.Code, got, want)
	}
}

// P10.2: each Op, and some that there are not.
func TestFollowsRows(t *testing.T) {
	m := code.Module{Cases: []code.Case{{Target: 6}, {Target: 1}, {Target: 2}}, Funcs: []code.Func{{Params: 1}, {}}}
	for op := -3; op < 60; op++ {
		want := []int{4}
		switch op {
		case 18:
			want = []int{1}
		case 19:
			want = []int{2, 4}
		case 22, 44:
			want = nil
		case 41:
			want = []int{1, 2}
		}
		wantFollows(t, m, among(code.Instr{Op: op, A: 1, B: 2, C: 5, D: 6}), 3, want...)
	}
	for _, op := range []int{math.MinInt, math.MaxInt, 1<<32 + 22, 1<<32 + 18} {
		wantFollows(t, m, among(code.Instr{Op: op}), 3, 4)
	}
	wantFollows(t, m, among(code.Instr{Op: 22, A: -1}), 3)
}

// P10.2: places that are there, up to both ends, and places that are not.
func TestFollowsPlaces(t *testing.T) {
	for _, place := range []int{0, 1, 2, 3, 4, 5, 6, 7, 8, -1, -7, math.MinInt, math.MinInt + 1, math.MaxInt, math.MaxInt - 1, 1 << 32} {
		var one []int
		both := []int{4}
		if place >= 0 && place < 7 {
			one = []int{place}
			both = slices.Compact([]int{min(place, 4), max(place, 4)})
		}
		m := code.Module{Cases: []code.Case{{Kind: 2, Target: place}, {Target: 4}}}
		wantFollows(t, m, among(code.Instr{Op: 18, A: place}), 3, one...)
		wantFollows(t, m, among(code.Instr{Op: 19, A: 5, B: place}), 3, both...)
		wantFollows(t, m, among(code.Instr{Op: 41, B: 1}), 3, one...)
		wantFollows(t, m, among(code.Instr{Op: 41, B: 2}), 3, both...)
	}
}

// P10.2: an if whose both ways are one place tells it once.
func TestFollowsIfOnce(t *testing.T) {
	wantFollows(t, code.Module{}, among(code.Instr{Op: 19, B: 4}), 3, 4)
	wantFollows(t, code.Module{}, among(code.Instr{Op: 19, B: 3}), 3, 3, 4)
	wantFollows(t, code.Module{}, among(code.Instr{Op: 19, B: 5}), 3, 4, 5)
}

// P10.2: a select's Targets, rising, each once, whatever its cases do.
func TestFollowsSelect(t *testing.T) {
	m := code.Module{Cases: []code.Case{{Kind: 0, Target: 6}, {Kind: 1, Target: 2}, {Kind: 2, Target: 6}, {Kind: 3, Target: 0}, {Kind: -1, Target: 2}, {Kind: 0, Target: 7}, {Kind: 1, Target: -1}, {Kind: 0, Target: 4}}}
	wantFollows(t, m, among(code.Instr{Op: 41, A: 0, B: 8}), 3, 0, 2, 4, 6)
	wantFollows(t, m, among(code.Instr{Op: 41, A: 0, B: 3}), 3, 2, 6)
	wantFollows(t, m, among(code.Instr{Op: 41, A: 0, B: 2}), 3, 2, 6)
	wantFollows(t, m, among(code.Instr{Op: 41, A: 2, B: 1}), 3, 6)
	wantFollows(t, m, among(code.Instr{Op: 41, A: 3, B: 2}), 3, 0, 2)
	wantFollows(t, m, among(code.Instr{Op: 41, A: 5, B: 2}), 3)
	for _, i := range []code.Instr{{A: 0, B: 0}, {A: 8, B: 0}, {A: 0, B: 9}, {A: 7, B: 2}, {A: 8, B: 1}, {A: -1, B: 1}, {A: -1, B: 2}, {A: 0, B: -1}, {A: math.MaxInt, B: 1}, {A: 1, B: math.MaxInt}, {A: math.MinInt, B: math.MaxInt}, {A: math.MaxInt, B: math.MinInt}} {
		i.Op = 41
		wantFollows(t, m, among(i), 3)
	}
}

// P10.2: the first and the last instruction, and a pc that is none.
func TestFollowsEnds(t *testing.T) {
	f := among(code.Instr{Op: 3})
	wantFollows(t, code.Module{}, f, 0, 1)
	wantFollows(t, code.Module{}, f, 5, 6)
	wantFollows(t, code.Module{}, f, 6)
	f.Code[6] = code.Instr{Op: 19, B: 2}
	wantFollows(t, code.Module{}, f, 6, 2)
	f.Code[6] = code.Instr{Op: 18, A: 6}
	wantFollows(t, code.Module{}, f, 6, 6)
	for _, pc := range []int{-1, -2, 7, 8, math.MinInt, math.MinInt + 1, math.MaxInt - 1, math.MaxInt} {
		wantFollows(t, code.Module{}, f, pc)
		wantFollows(t, code.Module{}, code.Func{}, pc)
	}
	wantFollows(t, code.Module{}, code.Func{}, 0)
	// What lies behind the code in its spare room is none of it.
	f.Code = f.Code[:4]
	wantFollows(t, code.Module{}, f, 3)
	wantFollows(t, code.Module{}, f, 4)
}
