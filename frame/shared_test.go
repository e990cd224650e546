package frame_test

import (
	"reflect"
	"slices"
	"testing"

	"gantline/api"
	"gantline/code"
	"gantline/frame"
	"gantline/head"
)

// roomy lays a list into a longer one, filled with something else behind it.
func roomy[T any](list []T, other T) []T {
	whole := append(slices.Clone(list), slices.Repeat([]T{other}, 20)...)
	return whole[:len(list)]
}

// roomyYard is the yard, all of whose lists have room behind them.
func roomyYard() code.Module {
	m := yard()
	for n, f := range m.Funcs {
		f.Kinds, f.Code, f.Maps = roomy(make([]bool, f.Slots), true), roomy(f.Code, code.Instr{Op: 43}), roomy(f.Maps, 7)
		m.Funcs[n] = f
	}
	m.Shapes, m.Globals, m.Consts = roomy([]head.Shape{{Fields: 1}}, head.Shape{Kind: 9}), roomy([]bool{true}, true), roomy([]int64{4}, 9)
	m.Cases, m.Funcs = roomy([]code.Case{{Kind: 2}}, code.Case{Kind: 9}), roomy(m.Funcs, code.Func{Params: 1, Slots: 3})
	return m
}

func full[T any](list []T) []T { return slices.Clone(list[:cap(list)]) }

// wholeModule is what can be told of a module, spare room too.
func wholeModule(m code.Module) []any {
	list := []any{m.Main, full(m.Shapes), full(m.Globals), full(m.Consts), full(m.Cases)}
	for _, f := range m.Funcs[:cap(m.Funcs)] {
		list = append(list, f.Params, f.Caught, f.Slots, f.Result, full(f.Kinds), full(f.Code), full(f.Maps))
	}
	return list
}

// R4: nothing that is handed in is changed, spare room included, by any call.
func TestLeavesWhatIsHandedIn(t *testing.T) {
	m, args := roomyYard(), roomy([]int64{1, 2, 3}, 99)
	before, argsBefore := wholeModule(m), full(args)
	wantLeft := func(where string) {
		t.Helper()
		if !reflect.DeepEqual(wholeModule(m), before) {
			t.Fatalf("%s: the module was changed", where)
		}
		if !slices.Equal(full(args), argsBefore) {
			t.Fatalf("%s: the args were changed", where)
		}
	}
	frame.New(m, functions, args)
	frame.New(m, two, args)
	s, _ := frame.New(m, three, args)
	wantLeft("New")
	s.Call(m, -1, args)
	s.Call(m, bare, args)
	for range 300 {
		s.Call(m, three, args)
		for slot := range 70 {
			s.Set(slot, 1000+int64(slot))
		}
		s.Jump(s.Depth() % 4)
		s.At(m)
		s.Point(m)
		wantLeft("Call, Set, Jump, At, Point")
	}
	s.Roots(m)
	s.Frames()
	s.Top()
	wantLeft("Roots, Frames, Top")
	for s.Return() {
		wantLeft("Return")
	}
}

// R4: args are copied, and a module is not kept: what is written into them later changes no stack.
func TestKeepsNothing(t *testing.T) {
	m, args := roomyYard(), roomy([]int64{1, 2, 3}, 99)
	s := begun(t, m, three, args...)
	u, _ := frame.New(m, three, args)
	call(t, u, m, params, args...)
	if e := u.Call(m, caught, args); e != api.OK {
		t.Fatalf("Call: %v", e)
	}
	clear(args[:cap(args)])
	for n := range m.Funcs {
		m.Funcs[n].Slots, m.Funcs[n].Params = 0, 0
		clear(m.Funcs[n].Code[:cap(m.Funcs[n].Code)])
		clear(m.Funcs[n].Maps[:cap(m.Funcs[n].Maps)])
	}
	wantFrames(t, "one call", s, of(three, 0, 1, 2, 3, 0))
	wantFrames(t, "three calls", u, of(three, 0, 1, 2, 3, 0), of(params, 0, 1, 2, 3), of(caught, 0, 1, 2, 3))
	// And a module is asked anew: as it is now.
	if i, ok := u.At(m); !ok || i != (code.Instr{}) {
		t.Errorf("At: %v, %v", i, ok)
	}
	wantRoots(t, "maps of none", u, m)
}

// overwrite writes into all of a list, spare room too.
func overwrite(list []int64) {
	list = list[:cap(list)]
	for k := range list {
		list[k] = -77
	}
}

// several is a stack of three calls.
func several(t *testing.T, m code.Module) *frame.Stack {
	t.Helper()
	s := begun(t, m, three, 1, 2, 3)
	s.Jump(1)
	call(t, s, m, whole, argsOf(m, whole)...)
	call(t, s, m, caught, 4, 5, 6)
	return s
}

// R4: what is written into an answer changes nothing.
func TestAnswersAreCopies(t *testing.T) {
	m := yard()
	s := several(t, m)
	before := told(s, m)
	top, _ := s.Top()
	overwrite(top.Slots)
	wantAsBefore(t, "Top", s, m, before)
	overwrite(s.Roots(m))
	wantAsBefore(t, "Roots", s, m, before)
	all := s.Frames()
	for _, f := range all {
		overwrite(f.Slots)
	}
	wantAsBefore(t, "Frames' slots", s, m, before)
	all = all[:cap(all)]
	for k := range all {
		all[k] = of(9, 9, 9)
	}
	wantAsBefore(t, "Frames", s, m, before)
}

// R4: no two lists of one answer share any memory, spare room included.
func TestFramesShareNothing(t *testing.T) {
	m := yard()
	s := several(t, m)
	for n := range s.Depth() {
		all, want := s.Frames(), s.Frames()
		overwrite(all[n].Slots)
		for k := range all {
			if k != n && !sameFrame(all[k], want[k]) {
				t.Errorf("frame %d's slots are frame %d's too", n, k)
			}
		}
	}
}

// R4: later calls change no answer.
func TestAnswersStay(t *testing.T) {
	m := yard()
	s := several(t, m)
	top, _ := s.Top()
	all, roots := s.Frames(), s.Roots(m)
	again := several(t, m)
	wantTop, _ := again.Top()
	wantAll, wantAllRoots := again.Frames(), again.Roots(m)
	for range 4 {
		for slot := range 64 {
			s.Set(slot, -5)
		}
		s.Jump(2)
		s.Return()
	}
	for range 5 {
		call(t, s, m, caught, 9, 9, 9)
		s.Jump(7)
	}
	if !sameFrame(top, wantTop) || !slices.EqualFunc(all, wantAll, sameFrame) || !slices.Equal(roots, wantAllRoots) {
		t.Errorf("an answer was changed: %v, %v, %v", top, all, roots)
	}
}

// R4: nil and an empty list are one.
func TestNilAndEmpty(t *testing.T) {
	m := yard()
	for _, args := range [][]int64{nil, {}, make([]int64, 0, 9)} {
		wantTaken(t, "no args", m, two, args, 0, 0)
		wantTaken(t, "no slots", m, bare, args)
		wantRefused(t, "too few", m, three, args)
	}
	m.Funcs[two].Code, m.Funcs[two].Maps = []code.Instr{}, []uint64{}
	s := begun(t, m, two)
	wantNoInstr(t, "empty code", s, m)
	wantRoots(t, "empty maps", s, m)
}

// R5: asked again, it says the same.
func TestAskedAgain(t *testing.T) {
	m := yard()
	s := several(t, m)
	for range 3 {
		before := told(s, m)
		wantAsBefore(t, "again", s, m, before)
		s.Return()
	}
}
