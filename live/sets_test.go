package live_test

import (
	"math"
	"runtime"
	"slices"
	"strconv"
	"testing"

	"gantline/code"
	"gantline/live"
)

func wantSets(t *testing.T, where string, m code.Module, f code.Func, want ...uint64) {
	t.Helper()
	if got := live.Sets(m, f); !slices.Equal(got, want) {
		t.Errorf("%s: Sets: %x, want %x", where, got, want)
	}
	wantPlain(t, where, m, f)
}

func wantMaps(t *testing.T, where string, m code.Module, f code.Func, want ...uint64) {
	t.Helper()
	if got := live.Maps(m, f); !slices.Equal(got, want) {
		t.Errorf("%s: Maps: %x, want %x", where, got, want)
	}
	wantPlain(t, where, m, f)
}

func function(list ...code.Instr) code.Func { return code.Func{Code: list} }

// P10.3: the example, and no code at all.
func TestSetsPlainly(t *testing.T) {
	wantSets(t, "the example", code.Module{}, function(code.Instr{Op: 3, A: 1, B: 2, C: 3}, code.Instr{Op: 22, A: 1}), 12, 2)
	wantSets(t, "nothing", code.Module{}, code.Func{})
	wantMaps(t, "nothing", code.Module{}, code.Func{Kinds: []bool{true, true}})
	wantSets(t, "nothing, but not nil", bench(), code.Func{Code: []code.Instr{}})
}

// P10.3: what is read is read ahead of what is written by the same instruction.
func TestSetsReadAndWritten(t *testing.T) {
	last := code.Instr{Op: 22, A: 1}
	wantSets(t, "add 1 1 2", code.Module{}, function(code.Instr{Op: 3, A: 1, B: 1, C: 2}, last), 6, 2)
	wantSets(t, "add 3 1 2", code.Module{}, function(code.Instr{Op: 3, A: 3, B: 1, C: 2}, last), 6, 2)
	wantSets(t, "const 1", code.Module{}, function(code.Instr{Op: 0, A: 1}, last), 0, 2)
	wantSets(t, "recv 1 2 3", code.Module{}, function(code.Instr{Op: 39, A: 1, B: 2, C: 3}, last), 4, 2)
	wantSets(t, "recv 3 2 1", code.Module{}, function(code.Instr{Op: 39, A: 3, B: 2, C: 1}, last), 4, 2)
	wantSets(t, "recv -1 2 -1", code.Module{}, function(code.Instr{Op: 39, A: -1, B: 2, C: -1}, last), 6, 2)
	wantSets(t, "call -1", code.Module{}, function(code.Instr{Op: 20, A: -1}, last), 2, 2)
	wantSets(t, "return -1", code.Module{}, function(code.Instr{Op: 43}, code.Instr{Op: 22, A: -1}, last), 0, 0, 2)
	wantSets(t, "trap", code.Module{}, function(code.Instr{Op: 44, A: 1}, last), 0, 2)
}

// P10.3: loops, one in another, and one that never ends.
func TestSetsLoops(t *testing.T) {
	f := function(
		code.Instr{Op: 0, A: 0},             // const 0
		code.Instr{Op: 43},                  // poll: the outer loop
		code.Instr{Op: 0, A: 1},             // const 1
		code.Instr{Op: 43},                  // poll: the inner one
		code.Instr{Op: 3, A: 1, B: 1, C: 3}, // add 1 1 3
		code.Instr{Op: 19, A: 1, B: 3},      // if 1: inner
		code.Instr{Op: 3, A: 0, B: 0, C: 4}, // add 0 0 4
		code.Instr{Op: 19, A: 0, B: 1},      // if 0: outer
		code.Instr{Op: 22, A: 5},
	)
	const outer = 1<<0 | 1<<3 | 1<<4 | 1<<5
	wantSets(t, "loops", code.Module{}, f, outer&^1, outer, outer, outer|2, outer|2, outer|2, outer, outer, 1<<5)
	wantSets(t, "jump to itself", code.Module{}, function(code.Instr{Op: 18}), 0)
	wantSets(t, "if to itself", code.Module{}, function(code.Instr{Op: 19, A: 7}), 1<<7)
	wantSets(t, "round and round", code.Module{}, function(code.Instr{Op: 42, A: 1}, code.Instr{Op: 42, A: 2}, code.Instr{Op: 18}), 6, 6, 6)
	// The least sets: what nobody reads is not kept alive by a loop.
	wantSets(t, "nobody reads", code.Module{}, function(code.Instr{Op: 43}, code.Instr{Op: 0, A: 3}, code.Instr{Op: 18}), 0, 0, 0)
}

// P10.3: code whose last instruction goes on behind the end, and ways that lead out of it.
func TestSetsEnds(t *testing.T) {
	wantSets(t, "behind the end", code.Module{}, function(code.Instr{Op: 42, A: 1}, code.Instr{Op: 3, A: 1, B: 2, C: 3}), 14, 12)
	wantSets(t, "if behind the end", code.Module{}, function(code.Instr{Op: 42, A: 1}, code.Instr{Op: 19, A: 2}), 6, 6)
	for _, place := range []int{-1, 3, math.MinInt, math.MaxInt} {
		m := code.Module{Cases: []code.Case{{Kind: 1, Chan: 4, Val: 5, Target: place}, {Kind: 2, Target: 2}}}
		print1 := code.Instr{Op: 42, A: 1}
		wantSets(t, "jump", m, function(code.Instr{Op: 18, A: place}, print1, print1), 0, 2, 2)
		wantSets(t, "if", m, function(code.Instr{Op: 19, A: 6, B: place}, print1, print1), 66, 2, 2)
		wantSets(t, "select", m, function(code.Instr{Op: 41, B: 1}, print1, print1), 48, 2, 2)
		wantSets(t, "select of two", m, function(code.Instr{Op: 41, B: 2}, print1, print1), 50, 2, 2)
	}
	wantSets(t, "an Op that there is not", code.Module{}, function(code.Instr{Op: 45, A: 1, B: 1, C: 1}, code.Instr{Op: -1, A: 1}, code.Instr{Op: 42, A: 1}), 2, 2, 2)
}

// P10.3: what a select receives is written on the way to its own target alone.
func TestSetsSelect(t *testing.T) {
	print5, end := code.Instr{Op: 42, A: 5}, code.Instr{Op: 22, A: -1}
	f := function(code.Instr{Op: 41, B: 2}, print5, end, end)
	two := func(a, b code.Case) code.Module { return code.Module{Cases: []code.Case{a, b}} }
	receive := code.Case{Chan: 4, Val: 5, Target: 1}
	wantSets(t, "read where it is written", two(receive, code.Case{Kind: 2, Target: 2}), f, 1<<4, 1<<5, 0, 0)
	wantSets(t, "read elsewhere", two(code.Case{Chan: 4, Val: 5, Target: 2}, code.Case{Kind: 2, Target: 1}), f, 1<<4|1<<5, 1<<5, 0, 0)
	wantSets(t, "read at both", two(receive, code.Case{Kind: 2, Chan: 9, Val: 5, Target: 1}), f, 1<<4|1<<5, 1<<5, 0, 0)
	wantSets(t, "received twice", two(receive, code.Case{Chan: 6, Val: 5, Target: 1}), f, 1<<4|1<<6, 1<<5, 0, 0)
	wantSets(t, "received to another", two(receive, code.Case{Chan: 6, Val: 7, Target: 1}), f, 1<<4|1<<6|1<<5, 1<<5, 0, 0)
	wantSets(t, "received to none", two(receive, code.Case{Chan: 6, Val: -1, Target: 1}), f, 1<<4|1<<6|1<<5, 1<<5, 0, 0)
	wantSets(t, "sent", two(receive, code.Case{Kind: 1, Chan: 6, Val: 7, Target: 1}), f, 1<<4|1<<5|1<<6|1<<7, 1<<5, 0, 0)
	wantSets(t, "sends what it receives", two(receive, code.Case{Kind: 1, Chan: 6, Val: 5, Target: 2}), f, 1<<4|1<<5|1<<6, 1<<5, 0, 0)
	wantSets(t, "receives where its channel is", two(code.Case{Chan: 5, Val: 5, Target: 1}, code.Case{Kind: 2, Target: 2}), f, 1<<5, 1<<5, 0, 0)
	wantSets(t, "a Kind that there is not", two(receive, code.Case{Kind: 3, Chan: 6, Val: 5, Target: 1}), f, 1<<4|1<<5|1<<6, 1<<5, 0, 0)
	wantSets(t, "not all there", code.Module{Cases: []code.Case{receive}}, f, 0, 1<<5, 0, 0)
	wantSets(t, "none there", code.Module{}, f, 0, 1<<5, 0, 0)
	again := two(receive, code.Case{Chan: 6, Val: 7, Target: 0})
	wantSets(t, "again and again", again, f, 1<<4|1<<6, 1<<5, 0, 0)
}

// P10.3: every stretch of 64 cases, each of which reads and receives to a slot of its own.
func TestSetsStretches(t *testing.T) {
	var m code.Module
	for k := range 64 {
		m.Cases = append(m.Cases, code.Case{Chan: k, Val: (k + 1) % 64, Target: 1 + k%2})
	}
	f := function(code.Instr{}, code.Instr{Op: 42, A: 9}, code.Instr{Op: 42, A: 10}, code.Instr{Op: 22, A: -1})
	f.Code[2] = code.Instr{Op: 22, A: 10}
	all := function()
	for first := range 65 {
		for count := range 65 - first {
			i := code.Instr{Op: 41, A: first, B: count}
			f.Code[0] = i
			all.Code = append(all.Code, i)
			wantPlain(t, "stretch "+strconv.Itoa(first)+" "+strconv.Itoa(count), m, f)
			var want uint64
			for k := first; k < first+count; k++ {
				want |= 1 << k
			}
			if got := live.Sets(m, f)[0] &^ (1<<9 | 1<<10); got != want&^(1<<9|1<<10) {
				t.Fatalf("stretch from %d, %d long: %x, want %x", first, count, got, want)
			}
		}
	}
	// All of them in one function, where each is a way to others.
	for k := range m.Cases {
		m.Cases[k].Target = k * 31 % len(all.Code)
	}
	if got, want := live.Sets(m, all), plainSets(m, all); !slices.Equal(got, want) {
		t.Errorf("all stretches at once: %x, want %x", got, want)
	}
}

// P10.3: slots below nought and above 63 are left out, wherever they are named.
func TestSetsOutside(t *testing.T) {
	for _, slot := range []int{-1, -2, -63, -64, 64, 65, 127, 128, 1 << 32, 1<<32 + 1, math.MinInt, math.MinInt + 1, math.MaxInt, math.MaxInt - 63} {
		print63 := code.Instr{Op: 42, A: 63}
		wantSets(t, "read", code.Module{}, function(code.Instr{Op: 42, A: slot}, print63), 1<<63, 1<<63)
		wantSets(t, "written", code.Module{}, function(code.Instr{Op: 0, A: slot}, print63), 1<<63, 1<<63)
		wantSets(t, "received", code.Module{}, function(code.Instr{Op: 39, A: slot, B: slot, C: slot}, print63), 1<<63, 1<<63)
		m := code.Module{Cases: []code.Case{{Chan: slot, Val: slot, Target: 1}, {Kind: 1, Chan: slot, Val: slot, Target: 1}}}
		wantSets(t, "selected", m, function(code.Instr{Op: 41, B: 2}, print63), 1<<63, 1<<63)
	}
	wantSets(t, "0 and 63", code.Module{}, function(code.Instr{Op: 3, A: 62, B: 0, C: 63}), 1<<63|1)
	wantSets(t, "63 is written", code.Module{}, function(code.Instr{Op: 0, A: 63}, code.Instr{Op: 42, A: 63}), 0, 1<<63)
	wantSets(t, "0 is written", code.Module{}, function(code.Instr{Op: 0}, code.Instr{Op: 42}), 0, 1)
}

// P10.3: runs that are partly outside.
func TestSetsRuns(t *testing.T) {
	m := code.Module{Funcs: []code.Func{{Params: 64, Caught: 3}}}
	wantSets(t, "all", m, function(code.Instr{Op: 20, A: -1}), math.MaxUint64)
	wantSets(t, "from 60 on", m, function(code.Instr{Op: 20, A: -1, C: 60}), 15<<60)
	wantSets(t, "from -60 on", m, function(code.Instr{Op: 23, B: -60}), 15)
	wantSets(t, "from -2 on", m, function(code.Instr{Op: 36, A: 5, C: -2}), 1)
	wantSets(t, "from the greatest on", m, function(code.Instr{Op: 20, A: -1, C: math.MaxInt}), 0)
	wantSets(t, "from the least on", m, function(code.Instr{Op: 21, A: -1, B: 3, C: math.MinInt, D: 64}), 8)
	wantSets(t, "65", m, function(code.Instr{Op: 24, A: 3, C: 65}), 8)
}

// P10.3: kinds, of fewer slots, of as many and of more.
func TestMaps(t *testing.T) {
	m := code.Module{Funcs: []code.Func{{Params: 64}}}
	f := function(code.Instr{Op: 20, A: -1}, code.Instr{Op: 42, A: 1}, code.Instr{Op: 22, A: 63})
	for n := range 131 {
		f.Kinds = slices.Repeat([]bool{true}, n)
		kinds := uint64(1)<<n - 1
		wantMaps(t, "true", m, f, kinds, kinds&(1<<63|2), kinds&(1<<63))
		f.Slots = 64 - n // says nothing here
		f.Kinds = make([]bool, n)
		wantMaps(t, "false", m, f, 0, 0, 0)
		for k := 0; k < n; k += 2 {
			f.Kinds[k] = true
		}
		wantMaps(t, "by turns", m, f, kinds&0x5555555555555555, 0, 0)
	}
	f.Kinds = nil
	wantMaps(t, "none", m, f, 0, 0, 0)
	wantSets(t, "none", m, f, math.MaxUint64, 1<<63|2, 1<<63)
	// What lies behind the list in its spare room is none of it, and the Maps that a function brings are not asked.
	f.Kinds, f.Maps = slices.Repeat([]bool{true}, 64)[:2], []uint64{9, 9, 9}
	wantMaps(t, "two", m, f, 3, 2, 0)
}

// P10.3: all code of three instructions out of these.
func TestSetsThree(t *testing.T) {
	m := code.Module{Cases: []code.Case{{Chan: 0, Val: 1, Target: 0}, {Kind: 1, Chan: 1, Val: 2, Target: 2}, {Chan: 2, Val: 2, Target: 1}, {Kind: 2, Target: 3}}, Funcs: []code.Func{{Params: 2, Caught: 1}}}
	list := []code.Instr{
		{Op: 0, A: 0}, {Op: 1, A: 0, B: 1}, {Op: 1, A: 1, B: 2}, {Op: 3, A: 2, B: 0, C: 2}, {Op: 42, A: 0}, {Op: 42, A: 2},
		{Op: 18, A: 0}, {Op: 18, A: 1}, {Op: 18, A: 2}, {Op: 18, A: 3}, {Op: 19, A: 1, B: 0}, {Op: 19, A: 0, B: 2}, {Op: 19, A: 2, B: 1},
		{Op: 22, A: -1}, {Op: 22, A: 1}, {Op: 20, A: 0, B: 0, C: 1}, {Op: 20, A: -1, B: 1, C: 1}, {Op: 36, A: 1, C: 1}, {Op: 39, A: 0, B: 1, C: 2},
		{Op: 41, A: 0, B: 1}, {Op: 41, A: 0, B: 3}, {Op: 41, A: 1, B: 2}, {Op: 41, A: 2, B: 2}, {Op: 41, A: 3, B: 2}, {Op: 43}, {Op: 44},
	}
	f := code.Func{Kinds: []bool{true, false, true}, Code: make([]code.Instr, 3)}
	for _, f.Code[0] = range list {
		for _, f.Code[1] = range list {
			for _, f.Code[2] = range list {
				wantPlain(t, "three", m, f)
			}
		}
	}
}

// P10.3: a way that goes back step by step is gone along once, not once for each step.
func TestSetsLongWayBack(t *testing.T) {
	const n = 200_000
	f := code.Func{Code: make([]code.Instr, n)}
	f.Code[0] = code.Instr{Op: 22, A: 9}
	for pc := 1; pc < n; pc++ {
		f.Code[pc] = code.Instr{Op: 18, A: pc - 1}
	}
	for pc, set := range live.Sets(code.Module{}, f) {
		if set != 1<<9 {
			t.Fatalf("at %d: %x", pc, set)
		}
	}
}

// taken is how much memory a call takes in all.
func taken(call func()) uint64 {
	var before, behind runtime.MemStats
	runtime.ReadMemStats(&before)
	call()
	runtime.ReadMemStats(&behind)
	return behind.TotalAlloc - before.TotalAlloc
}

// R1: many selects that share many cases take memory for selects and cases, not for selects times cases.
func TestSetsSharedCases(t *testing.T) {
	const n = 1 << 13
	m, f := code.Module{Cases: make([]code.Case, n)}, code.Func{Code: make([]code.Instr, n)}
	for k := range n {
		m.Cases[k] = code.Case{Chan: k % 50, Val: 60, Target: n - 1 - k}
		f.Code[k] = code.Instr{Op: 41, A: k % 2, B: n - 100 + k%100}
	}
	f.Code[n/2] = code.Instr{Op: 3, A: 50, B: 60, C: 61}
	f.Code[n/2+1] = code.Instr{Op: 22, A: 50}
	var sets []uint64
	if got := taken(func() { sets = live.Sets(m, f) }); got > 1<<26 {
		t.Errorf("Sets took %d bytes", got)
	}
	for pc, set := range sets {
		want := uint64(1<<51-1) | 1<<61 // 60 is received on every way
		switch pc {
		case n / 2:
			want = 1<<60 | 1<<61
		case n/2 + 1:
			want = 1 << 50
		}
		if set != want {
			t.Fatalf("at %d: %x, want %x", pc, set, want)
		}
	}
}
