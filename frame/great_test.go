package frame_test

import (
	"math"
	"runtime"
	"testing"

	"gantline/api"
	"gantline/code"
	"gantline/frame"
)

// taken is how much memory a call takes in all.
func taken(call func()) uint64 {
	var before, behind runtime.MemStats
	runtime.ReadMemStats(&before)
	call()
	runtime.ReadMemStats(&behind)
	return behind.TotalAlloc - before.TotalAlloc
}

// R1: what is refused takes no memory for slots that may be any number.
func TestRefusedTakesNothing(t *testing.T) {
	for _, slots := range []int{65, 1 << 20, 1 << 40, math.MaxInt} {
		m := oneFunc(0, 0, slots)
		if got := taken(func() { frame.New(m, 0, nil) }); got > 1<<14 {
			t.Errorf("New of %d slots took %d bytes", slots, got)
		}
	}
	m := oneFunc(0, 0, 1)
	args := make([]int64, 1<<20)
	if got := taken(func() { frame.New(m, 0, args) }); got > 1<<14 {
		t.Errorf("New of too many args took %d bytes", got)
	}
}

// R1: many calls that return, of a module of great lists: nothing is copied of it, nothing is kept of them.
func TestManyCalls(t *testing.T) {
	const calls = 100_000
	m := oneFunc(0, 0, 8)
	m.Funcs[0].Code, m.Funcs[0].Maps = make([]code.Instr, 1<<16), make([]uint64, 1<<16)
	s := begun(t, m, 0)
	got := taken(func() {
		for range calls {
			if e := s.Call(m, 0, nil); e != api.OK {
				t.Fatalf("Call: %v", e)
			}
			s.Jump(1<<16 - 1)
			s.Set(7, 1)
			s.At(m)
			if !s.Return() {
				t.Fatalf("Return: none left")
			}
		}
	})
	if got > calls*256 {
		t.Errorf("%d calls took %d bytes", calls, got)
	}
	wantFrames(t, "behind them", s, of(0, 0, make([]int64, 8)...))
}

// held is how much memory is in use.
func held() uint64 {
	var now runtime.MemStats
	runtime.GC()
	runtime.ReadMemStats(&now)
	return now.HeapAlloc
}

// R1: the slots of calls that have returned are let go of, while their stacks stay.
func TestReturnLetsGo(t *testing.T) {
	m := oneFunc(0, 0, api.MaxSlots)
	before := held()
	stacks := make([]*frame.Stack, 100)
	for k := range stacks {
		stacks[k] = begun(t, m, 0)
		for range api.MaxCalls - 1 {
			call(t, stacks[k], m, 0)
		}
		for stacks[k].Depth() > 1 {
			stacks[k].Return()
		}
	}
	behind := held()
	// All their slots would be 13 million bytes.
	if behind > before+1<<22 {
		t.Errorf("%d bytes are held", behind-before)
	}
	for _, s := range stacks {
		wantFrames(t, "behind it", s, of(0, 0, make([]int64, api.MaxSlots)...))
	}
}
