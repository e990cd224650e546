package frame_test

import (
	"math"
	"strconv"
	"testing"

	"gantline/api"
	"gantline/code"
	"gantline/frame"
)

// wantRefused wants New and Call, on stacks of none, one and two calls, to refuse it, and to leave all as it was.
func wantRefused(t *testing.T, where string, m code.Module, fn int, args []int64) {
	t.Helper()
	if s, e := frame.New(m, fn, args); s != nil || e != api.EARG {
		t.Errorf("%s: New(%d, %d args): %v, %v", where, fn, len(args), s, e)
	}
	y := yard()
	s := begun(t, y, three, 7, 8, 9)
	s.Jump(1)
	for range 3 {
		before := told(s, y)
		if e := s.Call(m, fn, args); e != api.EARG {
			t.Errorf("%s: Call(%d, %d args): %v", where, fn, len(args), e)
		}
		wantAsBefore(t, where, s, y, before)
		if s.Depth() == 1 {
			s.Return()
		} else {
			call(t, s, y, two)
			call(t, s, y, two)
		}
	}
}

// wantTaken wants New and Call to take it: a frame at 0, with these slots.
func wantTaken(t *testing.T, where string, m code.Module, fn int, args []int64, slots ...int64) {
	t.Helper()
	wantFrames(t, where+", New", begun(t, m, fn, args...), of(fn, 0, slots...))
	y := yard()
	s := begun(t, y, two)
	s.Jump(2)
	call(t, s, m, fn, args...)
	wantFrames(t, where+", Call", s, of(two, 2, 0, 0), of(fn, 0, slots...))
	s.Return()
	s.Return()
	call(t, s, m, fn, args...)
	wantFrames(t, where+", Call upon none", s, of(fn, 0, slots...))
}

// P13.1: the example.
func TestExample(t *testing.T) {
	m := code.Module{Funcs: []code.Func{{Params: 1, Slots: 2}}}
	s := begun(t, m, 0, 7)
	if s.Get(0) != 7 || s.Get(1) != 0 {
		t.Errorf("slots %d, %d", s.Get(0), s.Get(1))
	}
}

// P13.1: every function of the yard, its slots args, then 0.
func TestNewAndCall(t *testing.T) {
	m := yard()
	for fn := range functions {
		args := argsOf(m, fn)
		slots := append(args[:len(args):len(args)], make([]int64, m.Funcs[fn].Slots-len(args))...)
		wantTaken(t, "function "+strconv.Itoa(fn), m, fn, args, slots...)
	}
}

// P13.1: words may be any.
func TestArgsAny(t *testing.T) {
	args := []int64{math.MinInt64, -1, math.MaxInt64}
	wantTaken(t, "any words", yard(), three, args, math.MinInt64, -1, math.MaxInt64, 0)
	wantTaken(t, "noughts", yard(), three, make([]int64, 3), 0, 0, 0, 0)
}

// P13.1: a function that there is not.
func TestNoFunction(t *testing.T) {
	for _, m := range []code.Module{{}, {Funcs: []code.Func{{}}}, yard()} {
		for _, fn := range edges(len(m.Funcs)) {
			for _, args := range [][]int64{nil, {}, {1}, {1, 2, 3}} {
				wantRefused(t, "of "+strconv.Itoa(len(m.Funcs))+" functions", m, fn, args)
			}
		}
	}
	// One that lies in the list's spare room is none of the module's.
	m := yard()
	m.Funcs = m.Funcs[:two]
	wantRefused(t, "in spare room", m, two, nil)
}

// P13.1: Main says nothing of which function it is.
func TestNotMain(t *testing.T) {
	m := yard()
	for _, main := range []int{-1, two, 99} {
		m.Main = main
		wantTaken(t, "Main "+strconv.Itoa(main), m, three, []int64{1, 2, 3}, 1, 2, 3, 0)
	}
}

// P13.1: args one short, one too many, none, nil, and any other number of them.
func TestArgsCount(t *testing.T) {
	m := yard()
	for fn := range functions {
		want := len(argsOf(m, fn))
		for count := range 130 {
			if count != want {
				wantRefused(t, "function "+strconv.Itoa(fn), m, fn, make([]int64, count))
			}
		}
		if want > 0 {
			wantRefused(t, "nil", m, fn, nil)
		}
	}
	wantTaken(t, "nil", m, two, nil, 0, 0)
	wantTaken(t, "empty", m, two, []int64{}, 0, 0)
	// What lies in the args' spare room is none of them.
	long := []int64{1, 2, 3, 4, 5}
	wantTaken(t, "spare room", m, three, long[:3], 1, 2, 3, 0)
	wantRefused(t, "spare room", m, three, long[:2])
}

func oneFunc(params, caught, slots int) code.Module {
	return code.Module{Funcs: []code.Func{{Params: params, Caught: caught, Slots: slots}}}
}

func number(n int) string { return strconv.Itoa(n) }

// P13.1: each number of params, caught, slots and args up to a few, with those around them.
func TestEverySmallOne(t *testing.T) {
	for p := -3; p <= 4; p++ {
		for c := -3; c <= 4; c++ {
			for slots := -2; slots <= 5; slots++ {
				for count := range 7 {
					where := number(p) + " params, " + number(c) + " caught, " + number(slots) + " slots"
					args := []int64{5, 6, 7, 8, 9, 10, 11}[:count]
					// Of no less than nought each: a count below 0 is no count (R6).
					if p >= 0 && c >= 0 && p+c == count && count <= slots {
						wantTaken(t, where, oneFunc(p, c, slots), 0, args, append(args[:count:count], make([]int64, slots-count)...)...)
					} else {
						wantRefused(t, where, oneFunc(p, c, slots), 0, args)
					}
				}
			}
		}
	}
}

// P13.1: Params and Caught as many as Slots, and one more, at each number of slots.
func TestAsManyAsSlots(t *testing.T) {
	for slots := range api.MaxSlots + 1 {
		for p := range slots + 1 {
			args := make([]int64, slots)
			for k := range args {
				args[k] = int64(k - 9)
			}
			wantTaken(t, "as many", oneFunc(p, slots-p, slots), 0, args, args...)
			wantRefused(t, "one param more", oneFunc(p+1, slots-p, slots), 0, append(args[:slots:slots], 1))
			wantRefused(t, "one caught more", oneFunc(p, slots-p+1, slots), 0, append(args[:slots:slots], 1))
			wantRefused(t, "one param more, args as many as slots", oneFunc(p+1, slots-p, slots), 0, args)
		}
	}
}

// P13.1: a sum that goes beyond what an int holds is no number of args, whatever it wraps to.
func TestGreatSums(t *testing.T) {
	pairs := [][2]int{
		{math.MinInt, math.MinInt}, {math.MinInt, math.MinInt + 1}, {math.MinInt + 1, math.MinInt}, {math.MinInt + 2, math.MinInt + 2}, {math.MinInt, math.MinInt + 64},
		{math.MaxInt, math.MaxInt}, {math.MaxInt, 1}, {1, math.MaxInt}, {math.MaxInt, 2}, {math.MaxInt - 1, 3}, {math.MaxInt, 0}, {0, math.MaxInt},
		{math.MinInt, -1}, {-1, math.MinInt}, {math.MinInt, 0}, {0, math.MinInt}, {math.MinInt, math.MaxInt}, {math.MaxInt, math.MinInt},
		{1 << 32, 0}, {1 << 32, 1}, {1<<32 + 1, 0}, {0, 1<<32 + 1}, {1 << 62, 1 << 62}, {-1 << 62, -1 << 62}, {1 << 63 >> 1, -1 << 62},
	}
	for _, pair := range pairs {
		for _, slots := range []int{0, 1, 2, 4, 64} {
			for _, count := range []int{0, 1, 2, 3, 4, 63, 64, 65} {
				wantRefused(t, number(pair[0])+" and "+number(pair[1]), oneFunc(pair[0], pair[1], slots), 0, make([]int64, count))
			}
		}
	}
}

// P13.1: Slots below nought, 0, MaxSlots, one more, and any beyond.
func TestSlots(t *testing.T) {
	wantTaken(t, "0", oneFunc(0, 0, 0), 0, nil)
	wantTaken(t, "1", oneFunc(0, 0, 1), 0, nil, 0)
	wantTaken(t, "MaxSlots less 1", oneFunc(1, 0, 63), 0, []int64{4}, append([]int64{4}, make([]int64, 62)...)...)
	wantTaken(t, "MaxSlots", oneFunc(1, 0, 64), 0, []int64{4}, append([]int64{4}, make([]int64, 63)...)...)
	for _, slots := range []int{-1, -2, -64, 65, 66, 128, 1 << 20, 1 << 31, 1 << 32, 1<<32 + 2, 1 << 48, math.MaxInt, math.MinInt, math.MinInt + 2, -1 << 32} {
		wantRefused(t, number(slots)+" slots", oneFunc(0, 0, slots), 0, nil)
		wantRefused(t, number(slots)+" slots", oneFunc(0, 1, slots), 0, []int64{1})
		wantRefused(t, number(slots)+" slots", oneFunc(64, 1, slots), 0, make([]int64, 65))
	}
}

// P13.1: what is not named says nothing: kinds, code, maps, a result.
func TestNothingElseIsAsked(t *testing.T) {
	m := code.Module{Main: -5, Funcs: []code.Func{{Params: 1, Slots: 2, Result: 9, Kinds: make([]bool, 7), Maps: make([]uint64, 3)}, {Params: 1, Slots: 2, Result: -1}}}
	wantTaken(t, "first", m, 0, []int64{3}, 3, 0)
	wantTaken(t, "second", m, 1, []int64{3}, 3, 0)
}

// P13.1: MaxCalls calls, and one more, which is ELIMIT whatever it asks for: that is named first.
func TestMaxCalls(t *testing.T) {
	m := yard()
	s := begun(t, m, three, 1, 2, 3)
	for n := 1; n < api.MaxCalls; n++ {
		if got := s.Depth(); got != n {
			t.Fatalf("Depth %d, want %d", got, n)
		}
		call(t, s, m, params, int64(n), 0, -int64(n))
	}
	before := told(s, m)
	if s.Depth() != 256 {
		t.Fatalf("Depth %d", s.Depth())
	}
	for _, fn := range append(edges(functions), 0, 1, 2, 3) {
		for _, args := range [][]int64{nil, {}, {1}, {1, 2, 3}, make([]int64, 100)} {
			if e := s.Call(m, fn, args); e != api.ELIMIT {
				t.Fatalf("Call(%d, %v) of too many: %v", fn, args, e)
			}
			if e := s.Call(oneFunc(len(args), 0, 99), fn, args); e != api.ELIMIT {
				t.Fatalf("Call(%d, %v) of too many, with faults of the function: %v", fn, args, e)
			}
			wantAsBefore(t, "one too many", s, m, before)
		}
	}
	// One less: there is room for one again, and EARG is told again.
	s.Return()
	if e := s.Call(m, functions, nil); e != api.EARG {
		t.Errorf("no function, with room: %v", e)
	}
	call(t, s, m, two)
	if e := s.Call(m, two, nil); e != api.ELIMIT {
		t.Errorf("full again: %v", e)
	}
	for n := api.MaxCalls - 1; n > 1; n-- {
		if !s.Return() || s.Depth() != n {
			t.Fatalf("Return: %d left, want %d", s.Depth(), n)
		}
		if top, _ := s.Top(); !sameFrame(top, of(params, 0, int64(n-1), 0, -int64(n-1))) {
			t.Fatalf("behind Return: %v at %d", top, n)
		}
	}
	if !s.Return() {
		t.Fatalf("Return: none left, of two")
	}
	wantFrames(t, "the first call", s, of(three, 0, 1, 2, 3, 0))
}

// P13.1: Return of several, of one, of none, again behind that; a stack of none takes calls again.
func TestReturn(t *testing.T) {
	m := yard()
	s := begun(t, m, two)
	call(t, s, m, three, 1, 2, 3)
	call(t, s, m, bare)
	wantFrames(t, "three", s, of(two, 0, 0, 0), of(three, 0, 1, 2, 3, 0), of(bare, 0))
	if !s.Return() {
		t.Errorf("Return of three: none left")
	}
	wantFrames(t, "two", s, of(two, 0, 0, 0), of(three, 0, 1, 2, 3, 0))
	if !s.Return() {
		t.Errorf("Return of two: none left")
	}
	wantFrames(t, "one", s, of(two, 0, 0, 0))
	for n := range 4 {
		if s.Return() {
			t.Errorf("Return %d of one: one left", n)
		}
		wantFrames(t, "none", s)
		wantRoots(t, "none", s, m)
	}
	if e := s.Call(m, functions, nil); e != api.EARG {
		t.Errorf("Call upon none, of no function: %v", e)
	}
	wantFrames(t, "none still", s)
	call(t, s, m, caught, 4, 5, 6)
	wantFrames(t, "begun again", s, of(caught, 0, 4, 5, 6))
	if s.Return() {
		t.Errorf("Return of one, begun again: one left")
	}
}

// P13.1: a call that comes where one was has slots of its own: 0 behind its args, and PC 0.
func TestNewSlots(t *testing.T) {
	m := yard()
	s := begun(t, m, two)
	for n := range 5 {
		call(t, s, m, greatest, 9)
		wantFrames(t, "again", s, of(two, 0, 0, 0), of(greatest, 0, append([]int64{9}, make([]int64, 63)...)...))
		for slot := range 64 {
			s.Set(slot, int64(slot+n))
		}
		s.Jump(2)
		s.Return()
	}
	call(t, s, m, two)
	wantFrames(t, "of fewer slots", s, of(two, 0, 0, 0), of(two, 0, 0, 0))
}

// P13.1: two stacks are two.
func TestTwoStacks(t *testing.T) {
	m := yard()
	s, u := begun(t, m, three, 1, 2, 3), begun(t, m, three, 1, 2, 3)
	s.Set(0, 50)
	s.Jump(2)
	call(t, s, m, two)
	wantFrames(t, "the other", u, of(three, 0, 1, 2, 3, 0))
	u.Return()
	wantFrames(t, "the one", s, of(three, 2, 50, 2, 3, 0), of(two, 0, 0, 0))
}
