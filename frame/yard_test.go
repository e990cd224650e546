package frame_test

import (
	"math"
	"reflect"
	"slices"
	"testing"

	"gantline/api"
	"gantline/code"
	"gantline/frame"
)

// The yard's functions.
const (
	bare      = iota // no slots
	two              // two slots, no arguments
	three            // one parameter, two caught, four slots
	params           // parameters alone, as many as slots
	caught           // caught alone, as many as slots
	greatest         // MaxSlots slots
	whole            // MaxSlots slots, all of them arguments
	functions        // how many there are
)

// yard is a module of functions that can all be called. The maps name every second slot at 0, all at 1, none at 2.
func yard() code.Module {
	m := code.Module{Funcs: []code.Func{
		bare:     {},
		two:      {Slots: 2},
		three:    {Params: 1, Caught: 2, Slots: 4},
		params:   {Params: 3, Slots: 3},
		caught:   {Caught: 3, Slots: 3},
		greatest: {Params: 1, Slots: api.MaxSlots},
		whole:    {Params: 2, Caught: 62, Slots: api.MaxSlots},
	}}
	for n := range m.Funcs {
		m.Funcs[n].Code = []code.Instr{{Op: 43}, {Op: 3, A: n, B: 1, C: 1}, {Op: 22, A: -1}}
		m.Funcs[n].Maps = []uint64{0x5555555555555555, math.MaxUint64, 0}
	}
	return m
}

// argsOf are as many as the function takes, from 100 on.
func argsOf(m code.Module, fn int) []int64 {
	f := m.Funcs[fn]
	args := make([]int64, f.Params+f.Caught)
	for k := range args {
		args[k] = int64(100 + k)
	}
	return args
}

// edges are numbers at which there is nothing, of a list of so many.
func edges(count int) []int {
	return []int{-1, -2, -64, count, count + 1, count + 63, 1 << 31, 1 << 32, 1<<32 + 1, -1 << 32, math.MaxInt, math.MaxInt - 1, math.MinInt, math.MinInt + 1}
}

// begun is a stack of one call, which must be.
func begun(t *testing.T, m code.Module, fn int, args ...int64) *frame.Stack {
	t.Helper()
	s, e := frame.New(m, fn, args)
	if e != api.OK || s == nil {
		t.Fatalf("New(%d, %v): %v", fn, args, e)
	}
	return s
}

// call puts a call on it, which must be.
func call(t *testing.T, s *frame.Stack, m code.Module, fn int, args ...int64) {
	t.Helper()
	if e := s.Call(m, fn, args); e != api.OK {
		t.Fatalf("Call(%d, %v): %v", fn, args, e)
	}
}

// of is a frame.
func of(fn, pc int, slots ...int64) frame.Frame { return frame.Frame{Func: fn, PC: pc, Slots: slots} }

func sameFrame(f, g frame.Frame) bool {
	return f.Func == g.Func && f.PC == g.PC && slices.Equal(f.Slots, g.Slots)
}

// wantFrames wants a stack to be of these calls, by all that tells of them.
func wantFrames(t *testing.T, where string, s *frame.Stack, want ...frame.Frame) {
	t.Helper()
	if got := s.Frames(); !slices.EqualFunc(got, want, sameFrame) {
		t.Fatalf("%s: Frames: %v, want %v", where, got, want)
	}
	if got := s.Depth(); got != len(want) {
		t.Fatalf("%s: Depth: %d, want %d", where, got, len(want))
	}
	top, ok := s.Top()
	if len(want) == 0 {
		if ok || top.Func != 0 || top.PC != 0 || len(top.Slots) != 0 {
			t.Fatalf("%s: Top of none: %v, %v", where, top, ok)
		}
		return
	}
	last := want[len(want)-1]
	if !ok || !sameFrame(top, last) {
		t.Fatalf("%s: Top: %v, %v, want %v", where, top, ok, last)
	}
	for slot, word := range last.Slots {
		if got := s.Get(slot); got != word {
			t.Fatalf("%s: Get(%d): %d, want %d", where, slot, got, word)
		}
	}
}

func wantRoots(t *testing.T, where string, s *frame.Stack, m code.Module, want ...int64) {
	t.Helper()
	if got := s.Roots(m); !slices.Equal(got, want) {
		t.Errorf("%s: Roots: %v, want %v", where, got, want)
	}
}

// told is all that a stack tells, of a module.
func told(s *frame.Stack, m code.Module) []any {
	top, ok := s.Top()
	i, is := s.At(m)
	return []any{s.Depth(), top, ok, i, is, s.Point(m), s.Roots(m), s.Frames()}
}

// wantAsBefore wants a stack to tell what it told before.
func wantAsBefore(t *testing.T, where string, s *frame.Stack, m code.Module, before []any) {
	t.Helper()
	if got := told(s, m); !reflect.DeepEqual(got, before) {
		t.Fatalf("%s: %v, want %v", where, got, before)
	}
}
