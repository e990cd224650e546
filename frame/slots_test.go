package frame_test

import (
	"math"
	"slices"
	"testing"

	"gantline/api"
	"gantline/code"
	"gantline/frame"
)

// none is a stack whose only call has returned.
func none(t *testing.T) *frame.Stack {
	t.Helper()
	s := begun(t, yard(), three, 7, 8, 9)
	s.Jump(1)
	s.Return()
	return s
}

// P13.2: each slot by itself, of each function.
func TestGetAndSet(t *testing.T) {
	m := yard()
	for fn := range functions {
		args := argsOf(m, fn)
		s := begun(t, m, fn, args...)
		want := append(slices.Clone(args), make([]int64, m.Funcs[fn].Slots-len(args))...)
		for slot := range want {
			for _, v := range []int64{1, -1, 0, math.MaxInt64, math.MinInt64, int64(slot + 1000)} {
				s.Set(slot, v)
				want[slot] = v
				wantFrames(t, "set", s, of(fn, 0, want...))
			}
		}
	}
}

// P13.2: a slot that there is not: 0, and nothing.
func TestNoSlot(t *testing.T) {
	m := yard()
	for fn := range functions {
		args := argsOf(m, fn)
		s := begun(t, m, two)
		call(t, s, m, fn, args...)
		// Behind the top there are slots of another call: none of its own.
		s.Set(0, 3)
		before := told(s, m)
		for _, slot := range edges(m.Funcs[fn].Slots) {
			if got := s.Get(slot); got != 0 {
				t.Errorf("function %d: Get(%d): %d", fn, slot, got)
			}
			s.Set(slot, 77)
			if got := s.Get(slot); got != 0 {
				t.Errorf("function %d: Get(%d) behind Set: %d", fn, slot, got)
			}
			wantAsBefore(t, "no slot", s, m, before)
		}
	}
}

// P13.2: it is the top's slot alone.
func TestTopsSlots(t *testing.T) {
	m := yard()
	s := begun(t, m, three, 1, 2, 3)
	s.Set(3, 4)
	call(t, s, m, two)
	s.Set(0, 10)
	s.Set(1, 11)
	s.Set(2, 12)
	s.Set(3, 13)
	wantFrames(t, "two calls", s, of(three, 0, 1, 2, 3, 4), of(two, 0, 10, 11))
	if s.Get(2) != 0 || s.Get(3) != 0 {
		t.Errorf("slots of the call below are told")
	}
	s.Return()
	wantFrames(t, "one call", s, of(three, 0, 1, 2, 3, 4))
	s.Set(0, 9)
	wantFrames(t, "set", s, of(three, 0, 9, 2, 3, 4))
}

// P13.2: with no frame: 0, nothing, false.
func TestNoFrame(t *testing.T) {
	m := yard()
	s := none(t)
	for _, n := range append(edges(4), 0, 1, 2, 3) {
		s.Set(n, 5)
		s.Jump(n)
		if got := s.Get(n); got != 0 {
			t.Errorf("Get(%d): %d", n, got)
		}
		if i, ok := s.At(m); ok || i != (code.Instr{}) {
			t.Errorf("At: %v, %v", i, ok)
		}
		if s.Point(m) {
			t.Errorf("Point of none")
		}
		wantFrames(t, "none", s)
		wantRoots(t, "none", s, m)
	}
	// What was set and jumped to is not there later.
	call(t, s, m, two)
	wantFrames(t, "begun again", s, of(two, 0, 0, 0))
}

// P13.2: the PC may be any.
func TestJump(t *testing.T) {
	m := yard()
	s := begun(t, m, three, 1, 2, 3)
	call(t, s, m, two)
	for _, pc := range append(edges(3), 0, 1, 2, 0) {
		s.Jump(pc)
		wantFrames(t, "jumped", s, of(three, 0, 1, 2, 3, 0), of(two, pc, 0, 0))
	}
}

// P13.2: a frame below stands at its call till that returns, and behind that too.
func TestBelowStands(t *testing.T) {
	m := yard()
	for _, pc := range append(edges(3), 0, 1, 2) {
		s := begun(t, m, three, 1, 2, 3)
		s.Jump(pc)
		call(t, s, m, two)
		wantFrames(t, "called", s, of(three, pc, 1, 2, 3, 0), of(two, 0, 0, 0))
		s.Jump(1)
		call(t, s, m, bare)
		s.Jump(2)
		wantFrames(t, "called again", s, of(three, pc, 1, 2, 3, 0), of(two, 1, 0, 0), of(bare, 2))
		s.Return()
		wantFrames(t, "returned", s, of(three, pc, 1, 2, 3, 0), of(two, 1, 0, 0))
		s.Return()
		wantFrames(t, "returned again", s, of(three, pc, 1, 2, 3, 0))
	}
}

// all is a module with one function, which has each instruction from -2 on.
func all() code.Module {
	f := code.Func{Slots: 1}
	for op := -2; op < 50; op++ {
		f.Code = append(f.Code, code.Instr{Op: op, A: op + 1, B: -op, C: 7, D: 9})
	}
	f.Code = append(f.Code, code.Instr{Op: math.MaxInt}, code.Instr{Op: math.MinInt}, code.Instr{Op: 1<<32 + 43})
	return code.Module{Funcs: []code.Func{f}}
}

// P13.2: At and Point at each pc, whatever stands there.
func TestAt(t *testing.T) {
	m := all()
	points := []int{20, 21, 23, 24, 25, 26, 36, 37, 38, 39, 41, 43}
	s := begun(t, m, 0)
	for pc, want := range m.Funcs[0].Code {
		s.Jump(pc)
		if got, ok := s.At(m); !ok || got != want {
			t.Errorf("At %d: %v, %v, want %v", pc, got, ok, want)
		}
		if got := s.Point(m); got != slices.Contains(points, want.Op) {
			t.Errorf("Point at %d, of %d: %v", pc, want.Op, got)
		}
	}
}

func wantNoInstr(t *testing.T, where string, s *frame.Stack, m code.Module) {
	t.Helper()
	if got, ok := s.At(m); ok || got != (code.Instr{}) {
		t.Errorf("%s: At: %v, %v", where, got, ok)
	}
	if s.Point(m) {
		t.Errorf("%s: a point", where)
	}
}

// P13.2: out of the code there is no instruction.
func TestAtOutside(t *testing.T) {
	m := all()
	for n := range m.Funcs[0].Code {
		m.Funcs[0].Code[n].Op = 43
	}
	s := begun(t, m, 0)
	for _, pc := range edges(len(m.Funcs[0].Code)) {
		s.Jump(pc)
		wantNoInstr(t, "pc "+number(pc), s, m)
	}
	// Maps are not asked, nor what lies in the code's spare room.
	m.Funcs[0].Maps = make([]uint64, 100)
	m.Funcs[0].Code = m.Funcs[0].Code[:3]
	s.Jump(3)
	wantNoInstr(t, "in spare room", s, m)
	s.Jump(0)
	wantNoInstr(t, "of no code", s, oneFunc(0, 0, 1))
}

// P13.2: a module that lacks the function.
func TestAtNoFunction(t *testing.T) {
	m := yard()
	s := begun(t, m, three, 1, 2, 3)
	wantNoInstr(t, "no functions", s, code.Module{})
	m.Funcs = m.Funcs[:three]
	wantNoInstr(t, "one too few", s, m)
	m.Funcs = m.Funcs[:three+1]
	if i, ok := s.At(m); !ok || i.Op != 43 || !s.Point(m) {
		t.Errorf("just enough: %v, %v", i, ok)
	}
}

// P13.2: At is of the module that is handed in then, and of the top call.
func TestAtOfWhich(t *testing.T) {
	m := yard()
	s := begun(t, m, two)
	s.Jump(1)
	call(t, s, m, three, 1, 2, 3)
	if i, ok := s.At(m); !ok || i != (code.Instr{Op: 43}) {
		t.Errorf("At of the top: %v, %v", i, ok)
	}
	s.Return()
	if i, ok := s.At(m); !ok || i != (code.Instr{Op: 3, A: two, B: 1, C: 1}) || s.Point(m) {
		t.Errorf("At of the call below: %v, %v", i, ok)
	}
	other := yard()
	other.Funcs[two].Code[1] = code.Instr{Op: 25, A: 1}
	if i, ok := s.At(other); !ok || i.Op != 25 || !s.Point(other) {
		t.Errorf("At of another module: %v, %v", i, ok)
	}
}

// R1: a stack may be asked of a module whose function has other slots than it had.
func TestOtherSlots(t *testing.T) {
	m := yard()
	s := begun(t, m, three, 1, 2, 3)
	for _, slots := range []int{-1, 0, 2, 64, 99, math.MinInt, math.MaxInt} {
		other := yard()
		other.Funcs[three].Slots = slots
		if i, ok := s.At(other); !ok || i.Op != 43 {
			t.Errorf("%d slots: At: %v, %v", slots, i, ok)
		}
		wantRoots(t, number(slots)+" slots", s, other, 1, 3)
		if e := s.Call(other, three, []int64{1, 2, 3}); (e == api.OK) != (slots == 64) {
			t.Errorf("%d slots: Call: %v", slots, e)
		}
		if s.Depth() > 1 {
			s.Return()
		}
	}
}
