package sched_test

import (
	"fmt"
	"math"
	"reflect"
	"slices"
	"testing"

	"gantline/api"
	"gantline/chans"
	"gantline/code"
	"gantline/frame"
	"gantline/geom"
	"gantline/head"
	"gantline/heap"
	"gantline/sched"
)

// The shapes of all heaps here.
const (
	pair    = iota // a number and an address
	pipe           // a channel of numbers
	pipes          // a channel of addresses
	numbers        // an array of numbers
	caught         // a closure
)

func shapes() []head.Shape {
	return []head.Shape{pair: {Fields: 2, Map: 2}, pipe: {Kind: 3}, pipes: {Kind: 3, Map: 1}, numbers: {Kind: 1}, caught: {Kind: 2, Fields: 1}}
}

// The slots of all functions here: the first three are parameters.
const (
	a     = iota // channels, as a rule
	b            //
	c            //
	num          // a number
	ref          // an address
	slots        // how many there are
)

const none = -1 // no slot

// standing is a function that stands at this instruction, and returns behind it.
func standing(i code.Instr) code.Func {
	return code.Func{Params: 3, Slots: slots, Kinds: []bool{a: true, b: true, c: true, num: false, ref: true}, Code: []code.Instr{i, {Op: 22, A: none}}, Maps: []uint64{0, 0}}
}

func send(to, val int) code.Instr      { return code.Instr{Op: 38, A: to, B: val} }
func recv(val, from int) code.Instr    { return code.Instr{Op: 39, A: val, B: from, C: none} }
func choose(from, many int) code.Instr { return code.Instr{Op: 41, A: from, B: many} }
func poll() code.Instr                 { return code.Instr{Op: 43} }

func gets(from, val int) code.Case { return code.Case{Kind: 0, Chan: from, Val: val, Target: 1} }
func puts(to, val int) code.Case   { return code.Case{Kind: 1, Chan: to, Val: val, Target: 1} }
func other() code.Case             { return code.Case{Kind: 2, Target: 1} }

// holder is whom collections serve: there is always room here, so nobody asks.
type holder struct{}

func (holder) Globals() []int64  { return nil }
func (holder) Stacks() []int     { return nil }
func (holder) Stack(int) []int64 { return nil }

// world is a module, a table of it, and a heap.
type world struct {
	t *testing.T
	m code.Module
	g *sched.Table
	h *heap.Heap
}

func begunOf(t *testing.T, m code.Module) *world {
	t.Helper()
	h, e := heap.New(32, shapes())
	if e != api.OK {
		t.Fatalf("heap's New: %d", e)
	}
	return &world{t, m, sched.New(m), h}
}

// begun is a world of a module whose functions stand at these instructions.
func begun(t *testing.T, cases []code.Case, instrs ...code.Instr) *world {
	t.Helper()
	m := code.Module{Shapes: shapes(), Cases: cases}
	for _, i := range instrs {
		m.Funcs = append(m.Funcs, standing(i))
	}
	return begunOf(t, m)
}

// chooser is a world whose function 0 stands at a select of all these cases, and the others at these instructions.
func chooser(t *testing.T, cases []code.Case, instrs ...code.Instr) *world {
	t.Helper()
	return begun(t, cases, append([]code.Instr{choose(0, len(cases))}, instrs...)...)
}

// add adds a goroutine, which must be; parameters that are not told are 0.
func (w *world) add(fn int, args ...int64) int {
	w.t.Helper()
	args = append(slices.Clone(args), make([]int64, 3-len(args))...)
	id, e := w.g.Add(fn, args)
	if id < 1 || e != api.OK {
		w.t.Fatalf("Add(%d, %v): %d, %d", fn, args, id, e)
	}
	return id
}

// object makes one, which must be.
func (w *world) object(shape, words int) int64 {
	w.t.Helper()
	addr, e := w.h.Make(shape, words, holder{})
	if e != api.OK {
		w.t.Fatalf("heap's Make(%d, %d): %d", shape, words, e)
	}
	return addr
}

// channel makes one with these things in it.
func (w *world) channel(shape int, room int64, things ...int64) int64 {
	w.t.Helper()
	addr, trap, e := chans.Make(w.h, shape, room, holder{})
	if trap != api.TrapNone || e != api.OK {
		w.t.Fatalf("chans' Make(%d, %d): %d, %d", shape, room, trap, e)
	}
	for _, v := range things {
		w.push(addr, v)
	}
	return addr
}

// closed closes a channel.
func (w *world) closed(addr int64) int64 {
	w.t.Helper()
	if !chans.Close(w.h, addr) {
		w.t.Fatalf("Close(%d)", addr)
	}
	return addr
}

// told is what Ways tells of all, and what Enabled tells.
func (w *world) told() string {
	s := ""
	for _, id := range w.g.IDs() {
		s += fmt.Sprintf("%d%v ", id, w.g.Ways(w.h, id))
	}
	return s + fmt.Sprint(w.g.Enabled(w.h))
}

// want wants Ways and Enabled to tell this, and to change nothing.
func (w *world) want(where, want string) {
	w.t.Helper()
	w.wantSame(where, func() {
		w.t.Helper()
		if got := w.told(); got != want {
			w.t.Errorf("%s: %s, want %s", where, got, want)
		}
	})
}

// wantIDs wants these goroutines, by all that tells of them.
func (w *world) wantIDs(where string, want ...int) {
	w.t.Helper()
	if got := w.g.IDs(); !slices.Equal(got, want) {
		w.t.Fatalf("%s: IDs: %v, want %v", where, got, want)
	}
	for id := -2; id < 80; id++ {
		if is := w.g.Stack(id) != nil; is != slices.Contains(want, id) {
			w.t.Fatalf("%s: Stack(%d): %v", where, id, is)
		}
	}
}

// wantRefused wants an Add to be refused, and to change nothing.
func (w *world) wantRefused(where string, fn int, args []int64, want api.Errno) {
	w.t.Helper()
	w.wantSame(where, func() {
		w.t.Helper()
		if id, e := w.g.Add(fn, args); id != 0 || e != want {
			w.t.Errorf("%s: Add(%d, %v): %d, %d, want 0, %d", where, fn, args, id, e, want)
		}
	})
}

// words are all words of the heap's places, and what is said of each span.
func (w *world) words() []int64 {
	x := w.h.Cycle()
	list := []int64{int64(x.Phase()), int64(x.Done()), int64(x.Marker().Left()), int64(w.h.Forced())}
	for span := range x.Arena().Spans() {
		class := x.Arena().Class(span)
		list = append(list, int64(class), int64(x.Arena().Taken(span)), int64(x.Arena().Marked(span)))
		for place := range geom.Places(class) {
			for at := range geom.Words(class) {
				v, _ := x.Arena().Read(geom.Addr(span, place, class), at)
				list = append(list, v)
			}
		}
	}
	return list
}

// frames are all calls of all goroutines.
func (w *world) frames() [][]frame.Frame {
	var list [][]frame.Frame
	for _, id := range w.g.IDs() {
		list = append(list, w.g.Stack(id).Frames())
	}
	return list
}

// wantSame wants calls to change nothing that can be told.
func (w *world) wantSame(where string, calls func()) {
	w.t.Helper()
	ids, words, frames := w.g.IDs(), w.words(), w.frames()
	calls()
	if !slices.Equal(w.g.IDs(), ids) || !slices.Equal(w.words(), words) || !reflect.DeepEqual(w.frames(), frames) {
		w.t.Errorf("%s: something is changed", where)
	}
}

// beyond are numbers that are no goroutine's and no function's here.
func beyond() []int {
	return []int{-1, -2, -64, 65, 128, 1 << 31, 1 << 32, 1<<32 + 1, -1 << 32, math.MaxInt, math.MinInt, math.MinInt + 1}
}

// nowhere are addresses at which no place begins.
func nowhere() []int64 {
	return []int64{0, 1, 63, 65, 32 * 64, 512 * 64, 1 << 32, 1<<32 + 64, math.MaxInt64, -1, -64, math.MinInt64}
}

func (w *world) push(addr, v int64) {
	w.t.Helper()
	if !chans.Push(w.h, addr, v, 1) {
		w.t.Fatalf("Push(%d, %d)", addr, v)
	}
}

func (w *world) pop(addr int64) {
	w.t.Helper()
	if _, ok := chans.Pop(w.h, addr); !ok {
		w.t.Fatalf("Pop(%d)", addr)
	}
}
