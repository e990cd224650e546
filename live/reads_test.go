package live_test

import (
	"math"
	"slices"
	"strconv"
	"testing"

	"gantline/code"
	"gantline/live"
)

// bench has functions that take and catch many numbers of things, and cases of each Kind.
func bench() code.Module {
	return code.Module{
		Funcs: []code.Func{{}, {Params: 2, Caught: 3}, {Params: 64, Caught: 63}, {Params: 65, Caught: 64}, {Params: -1, Caught: 65}, {Params: math.MaxInt, Caught: math.MinInt}, {Params: math.MinInt, Caught: math.MaxInt}, {Params: 63, Caught: -1}},
		Cases: []code.Case{{Kind: 0, Chan: 10, Val: 11, Target: 12}, {Kind: 1, Chan: 20, Val: 21, Target: 22}, {Kind: 2, Chan: 30, Val: 31, Target: 32}, {Kind: 3, Chan: 40, Val: 41, Target: 42}, {Kind: -1, Chan: 50, Val: 51, Target: 52}, {Kind: 0, Chan: -1, Val: -1, Target: -1}, {Kind: 1, Chan: -1, Val: -1, Target: -1}},
	}
}

// edges are numbers at which something may go wrong.
func edges() []int {
	return []int{0, 1, -1, 2, -2, 3, 5, 7, 8, 62, 63, 64, 65, math.MaxInt, math.MaxInt - 1, math.MaxInt - 63, math.MinInt, math.MinInt + 1}
}

// from is a run of slots, written out.
func from(first, count int) []int {
	var list []int
	for range count {
		list = append(list, first)
		first++
	}
	return list
}

func wantReads(t *testing.T, m code.Module, i code.Instr, want ...int) {
	t.Helper()
	if got := live.Reads(m, i); !slices.Equal(got, want) {
		t.Errorf("Reads(%s): %v, want %v", code.Show(i), got, want)
	}
}

func wantWrites(t *testing.T, i code.Instr, want ...int) {
	t.Helper()
	if got := live.Writes(i); !slices.Equal(got, want) {
		t.Errorf("Writes(%s): %v, want %v", code.Show(i), got, want)
	}
}

// P10.1: one of each row, by hand.
func TestReadsWrites(t *testing.T) {
	m := bench()
	for op, c := range []struct{ reads, writes []int }{
		0:  {nil, []int{4}},
		1:  {[]int{1}, []int{4}},
		2:  {nil, []int{4}},
		3:  {[]int{1, 3}, []int{4}},
		4:  {[]int{1, 3}, []int{4}},
		5:  {[]int{1, 3}, []int{4}},
		6:  {[]int{1, 3}, []int{4}},
		7:  {[]int{1, 3}, []int{4}},
		8:  {[]int{1, 3}, []int{4}},
		9:  {[]int{1, 3}, []int{4}},
		10: {[]int{1, 3}, []int{4}},
		11: {[]int{1, 3}, []int{4}},
		12: {[]int{1, 3}, []int{4}},
		13: {[]int{1, 3}, []int{4}},
		14: {[]int{1, 3}, []int{4}},
		15: {[]int{1, 3}, []int{4}},
		16: {[]int{1, 3}, []int{4}},
		17: {[]int{1}, []int{4}},
		18: {nil, nil},
		19: {[]int{4}, nil},
		20: {[]int{3, 4}, []int{4}},
		21: {[]int{1, 3, 4}, []int{4}},
		22: {[]int{4}, nil},
		23: {nil, nil}, // function 4 has Params below nought
		24: {[]int{4, 1, 2, 3}, nil},
		25: {nil, []int{4}},
		26: {[]int{3}, []int{4}},
		27: {[]int{1}, []int{4}},
		28: {[]int{4, 3}, nil},
		29: {[]int{4, 3}, nil},
		30: {[]int{1, 3}, []int{4}},
		31: {[]int{4, 1, 3}, nil},
		32: {[]int{4, 1, 3}, nil},
		33: {[]int{1}, []int{4}},
		34: {nil, []int{4}},
		35: {[]int{1}, nil},
		36: {[]int{3, 4, 5}, []int{4}},
		37: {[]int{3}, []int{4}},
		38: {[]int{4, 1}, nil},
		39: {[]int{1}, []int{4, 3}},
		40: {[]int{4}, nil},
		41: {[]int{50}, nil},
		42: {[]int{4}, nil},
		43: {nil, nil},
		44: {nil, nil},
	} {
		i := code.Instr{Op: op, A: 4, B: 1, C: 3, D: 2}
		wantReads(t, m, i, c.reads...)
		wantWrites(t, i, c.writes...)
	}
}

// P10.1: each row at every mixture of the operands' edges.
func TestReadsWritesRows(t *testing.T) {
	m, values := bench(), edges()
	n := len(values)
	for op := -2; op < 47; op++ {
		for k := range n * n * n * n {
			i := code.Instr{Op: op, A: values[k%n], B: values[k/n%n], C: values[k/n/n%n], D: values[k/n/n/n]}
			if i.D != values[0] && op != 21 {
				continue // callc alone names it
			}
			if got, want := live.Reads(m, i), plainReads(m, i); !slices.Equal(got, want) {
				t.Fatalf("Reads(%v): %v, want %v", i, got, want)
			}
			if got, want := live.Writes(i), plainWrites(i); !slices.Equal(got, want) {
				t.Fatalf("Writes(%v): %v, want %v", i, got, want)
			}
		}
	}
}

// P10.1: an Op that there is not reads and writes nothing.
func TestReadsWritesOutside(t *testing.T) {
	ops := []int{math.MinInt, math.MinInt + 1, math.MaxInt, math.MaxInt - 1, 1 << 32, 1<<32 + 3, -1 << 32, 1 << 8, 1<<8 + 3}
	for k := range 300 {
		ops = append(ops, 45+k, -1-k)
	}
	for _, op := range ops {
		i := code.Instr{Op: op, A: 1, B: 1, C: 1, D: 1}
		if r, w := live.Reads(bench(), i), live.Writes(i); len(r) != 0 || len(w) != 0 {
			t.Errorf("Op %d: Reads %v, Writes %v", op, r, w)
		}
	}
}

// P10.1: -1 is none where the chapter says so, and a slot like others elsewhere.
func TestNone(t *testing.T) {
	m := bench()
	for _, a := range []int{-1, -2, 0, 64, math.MinInt, math.MaxInt} {
		some := []int{a}
		if a == -1 {
			some = nil
		}
		wantReads(t, m, code.Instr{Op: 22, A: a}, some...)
		wantWrites(t, code.Instr{Op: 20, A: a}, some...)
		wantWrites(t, code.Instr{Op: 21, A: a}, some...)
		wantWrites(t, code.Instr{Op: 39, A: a, C: -1}, some...)
		wantWrites(t, code.Instr{Op: 39, A: -1, C: a}, some...)
		wantWrites(t, code.Instr{Op: 39, A: a, C: 5}, append(some, 5)...)
		wantWrites(t, code.Instr{Op: 39, A: 5, C: a}, append([]int{5}, some...)...)
	}
	wantWrites(t, code.Instr{Op: 39, A: 6, C: 6}, 6, 6)
	wantReads(t, m, code.Instr{Op: 39, A: 1, B: -1, C: 1}, -1)
	wantReads(t, m, code.Instr{Op: 21, A: 1, B: -1, C: -1, D: 2}, -1, -1, 0)
	wantReads(t, m, code.Instr{Op: 24, A: -1, B: -1, C: 1}, -1, -1)
	wantReads(t, m, code.Instr{Op: 42, A: -1}, -1)
	wantReads(t, m, code.Instr{Op: 3, A: -1, B: -1, C: -1}, -1, -1)
	for _, op := range []int{0, 1, 2, 3, 17, 25, 26, 27, 30, 33, 34, 36, 37} {
		wantWrites(t, code.Instr{Op: op, A: -1}, -1)
	}
}

// P10.1: functions that are there and that are not.
func TestReadsFunctions(t *testing.T) {
	m := bench()
	for n, f := range m.Funcs {
		params, caught := from(3, 0), from(3, 0)
		if f.Params <= 64 {
			params = from(3, max(f.Params, 0))
		}
		if f.Caught <= 64 {
			caught = from(3, max(f.Caught, 0))
		}
		wantReads(t, m, code.Instr{Op: 20, A: 1, B: n, C: 3, D: 9}, params...)
		wantReads(t, m, code.Instr{Op: 23, A: n, B: 3, C: 9, D: 9}, params...)
		wantReads(t, m, code.Instr{Op: 36, A: 1, B: n, C: 3, D: 9}, caught...)
	}
	for _, n := range []int{-1, len(m.Funcs), len(m.Funcs) + 1, math.MinInt, math.MaxInt} {
		wantReads(t, m, code.Instr{Op: 20, A: 1, B: n, C: 3})
		wantReads(t, m, code.Instr{Op: 23, A: n, B: 3})
		wantReads(t, m, code.Instr{Op: 36, A: 1, B: n, C: 3})
	}
	wantReads(t, code.Module{}, code.Instr{Op: 20})
	wantReads(t, code.Module{}, code.Instr{Op: 23})
	wantReads(t, code.Module{}, code.Instr{Op: 36})
	// What lies behind the list in its spare room is none of it.
	m.Funcs = m.Funcs[:1]
	wantReads(t, m, code.Instr{Op: 20, A: 1, B: 1, C: 3})
}

// P10.1: runs of all lengths, from all places on.
func TestReadsRuns(t *testing.T) {
	m := code.Module{Funcs: []code.Func{{}}}
	for _, first := range []int{0, 1, 3, 63, 64, 1000, -1, -2, -64, -65, math.MinInt, math.MinInt + 1, math.MaxInt - 100, math.MaxInt - 63, math.MaxInt - 1, math.MaxInt} {
		for _, count := range []int{0, 1, 2, 3, 62, 63, 64, 65, 66, 128, 1000, 1 << 20, 1 << 32, 1<<32 + 1, math.MaxInt - 1, math.MaxInt, -1, -2, -64, math.MinInt, math.MinInt + 1} {
			var run []int
			if count >= 0 && count <= 64 {
				run = from(first, count)
			}
			m.Funcs[0] = code.Func{Params: count, Caught: 1}
			wantReads(t, m, code.Instr{Op: 20, A: 7, C: first}, run...)
			wantReads(t, m, code.Instr{Op: 23, B: first}, run...)
			m.Funcs[0] = code.Func{Params: 1, Caught: count}
			wantReads(t, m, code.Instr{Op: 36, A: 7, C: first}, run...)
			wantReads(t, m, code.Instr{Op: 21, A: 7, B: 9, C: first, D: count}, append([]int{9}, run...)...)
			wantReads(t, m, code.Instr{Op: 24, A: 9, B: first, C: count}, append([]int{9}, run...)...)
		}
	}
	wantReads(t, m, code.Instr{Op: 24, A: 9, B: math.MaxInt - 1, C: 3}, 9, math.MaxInt-1, math.MaxInt, math.MinInt)
}

// P10.1: a select's cases, all there or not.
func TestReadsSelect(t *testing.T) {
	m := bench()
	wantReads(t, m, code.Instr{Op: 41, A: 0, B: 7}, 10, 20, 21, 40, 50, -1, -1, -1)
	wantReads(t, m, code.Instr{Op: 41, A: 0, B: 1}, 10)
	wantReads(t, m, code.Instr{Op: 41, A: 1, B: 1}, 20, 21)
	wantReads(t, m, code.Instr{Op: 41, A: 2, B: 1})
	wantReads(t, m, code.Instr{Op: 41, A: 3, B: 1}, 40)
	wantReads(t, m, code.Instr{Op: 41, A: 4, B: 1}, 50)
	wantReads(t, m, code.Instr{Op: 41, A: 5, B: 1}, -1)
	wantReads(t, m, code.Instr{Op: 41, A: 6, B: 1}, -1, -1)
	wantReads(t, m, code.Instr{Op: 41, A: 1, B: 3}, 20, 21, 40)
	for _, i := range []code.Instr{
		{A: 0, B: 0}, {A: 7, B: 0}, {A: 8, B: 0}, {A: -1, B: 0}, {A: math.MinInt, B: 0}, {A: math.MaxInt, B: 0},
		{A: 0, B: 8}, {A: 1, B: 7}, {A: 6, B: 2}, {A: 7, B: 1}, {A: 8, B: 1}, {A: 0, B: math.MaxInt}, {A: 1, B: math.MaxInt}, {A: math.MaxInt, B: 1}, {A: math.MaxInt, B: math.MaxInt}, {A: math.MaxInt, B: math.MinInt},
		{A: -1, B: 1}, {A: -1, B: 2}, {A: -7, B: 14}, {A: math.MinInt, B: 1}, {A: math.MinInt, B: math.MaxInt}, {A: math.MinInt, B: math.MinInt},
		{A: 0, B: -1}, {A: 7, B: -7}, {A: 3, B: math.MinInt},
	} {
		i.Op = 41
		wantReads(t, m, i)
	}
	wantReads(t, code.Module{}, code.Instr{Op: 41, B: 1})
	wantReads(t, code.Module{Cases: m.Cases[:1]}, code.Instr{Op: 41, B: 2})
}

// P10.1: more than 64 cases are no run of slots.
func TestReadsManyCases(t *testing.T) {
	var m code.Module
	var want []int
	for k := range 200 {
		m.Cases = append(m.Cases, code.Case{Kind: 1, Chan: k, Val: 3 * k})
		want = append(want, k, 3*k)
	}
	wantReads(t, m, code.Instr{Op: 41, B: 200}, want...)
	wantReads(t, m, code.Instr{Op: 41, A: 20, B: 65}, want[40:170]...)
}

// P10.1: what is named twice is told twice, in the operands' order.
func TestReadsOrder(t *testing.T) {
	m := bench()
	wantReads(t, m, code.Instr{Op: 3, A: 1, B: 9, C: 2}, 9, 2)
	wantReads(t, m, code.Instr{Op: 3, A: 1, B: 2, C: 2}, 2, 2)
	wantReads(t, m, code.Instr{Op: 28, A: 9, B: 5, C: 2}, 9, 2)
	wantReads(t, m, code.Instr{Op: 31, A: 9, B: 2, C: 5}, 9, 2, 5)
	wantReads(t, m, code.Instr{Op: 38, A: 9, B: 2}, 9, 2)
	wantReads(t, m, code.Instr{Op: 21, A: 1, B: 9, C: 8, D: 3}, 9, 8, 9, 10)
	wantReads(t, m, code.Instr{Op: 24, A: 9, B: 8, C: 3}, 9, 8, 9, 10)
	m.Cases = []code.Case{{Kind: 1, Chan: 9, Val: 9}, {Kind: 1, Chan: 5, Val: 2}, {Kind: 0, Chan: 9}}
	wantReads(t, m, code.Instr{Op: 41, B: 3}, 9, 9, 5, 2, 9)
	wantWrites(t, code.Instr{Op: 39, A: 9, B: 3, C: 2}, 9, 2)
}

// R5: twice the same.
func TestReadsAgain(t *testing.T) {
	m := bench()
	for op := range 45 {
		i := code.Instr{Op: op, A: 1, B: 1, C: 3, D: 2}
		r, w := live.Reads(m, i), live.Writes(i)
		for range 3 {
			if !slices.Equal(live.Reads(m, i), r) || !slices.Equal(live.Writes(i), w) {
				t.Errorf("Op %s is told otherwise the second time", strconv.Itoa(op))
			}
		}
	}
}
