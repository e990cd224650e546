package vm_test

import (
	"fmt"
	"math"
	"slices"
	"testing"

	"gantline/api"
	"gantline/code"
	"gantline/geom"
	"gantline/head"
	"gantline/live"
	"gantline/op"
	"gantline/vm"
)

// The phases, by chapter 8's numbers.
const (
	off = iota
	roots
	marking
	sweeping
)

// The least and the greatest number.
const (
	least    = -1 << 62
	greatest = 1<<62 - 1
)

// The shapes of all modules here.
const (
	pair     = iota // a number and an address
	nums            // an array of numbers
	refs            // an array of addresses
	pipe            // a channel of numbers
	pipes           // a channel of addresses
	bare            // no fields
	wide            // 63 fields, every second one an address
	caught          // a closure, which no instruction names
	shapeEnd        // how many there are
)

func shapes() []head.Shape {
	return []head.Shape{
		pair:   {Fields: 2, Map: 2},
		nums:   {Kind: 1},
		refs:   {Kind: 1, Map: 1},
		pipe:   {Kind: 3},
		pipes:  {Kind: 3, Map: 1},
		bare:   {},
		wide:   {Fields: 63, Map: 0x5555555555555555 >> 1},
		caught: {Kind: 2, Fields: 2, Map: 2},
	}
}

// The globals of all modules here.
const (
	globalNum = iota
	globalRef
	globalRef2
	globalNum2
)

func globals() []bool {
	return []bool{globalNum: false, globalRef: true, globalRef2: true, globalNum2: false}
}

func consts() []int64 {
	list := []int64{least, least + 1, least + 2, greatest, greatest - 1, -1 << 61, 1 << 61, -1 << 32, 1 << 32, 1<<32 + 1, 1 << 40, 12345678901}
	for v := int64(-70); v <= 130; v++ {
		list = append(list, v)
	}
	return list
}

// in is an instruction.
func in(o int, operands ...int) code.Instr {
	all := [4]int{}
	copy(all[:], operands)
	return code.Instr{Op: o, A: all[0], B: all[1], C: all[2], D: all[3]}
}

// num lets a slot get a number that is one of consts.
func num(slot int, v int64) code.Instr {
	at := slices.Index(consts(), v)
	if at < 0 {
		panic(fmt.Sprint("no constant ", v))
	}
	return in(op.Const, slot, at)
}

func end() code.Instr            { return in(op.Return, op.None) }
func show(slot int) code.Instr   { return in(op.Print, slot) }
func poll() code.Instr           { return in(op.Poll) }
func jump(pc int) code.Instr     { return in(op.Jump, pc) }
func choose(a, n int) code.Instr { return in(op.Select, a, n) }

func gets(from, val, target int) code.Case {
	return code.Case{Kind: 0, Chan: from, Val: val, Target: target}
}
func puts(to, val, target int) code.Case {
	return code.Case{Kind: 1, Chan: to, Val: val, Target: target}
}
func other(target int) code.Case { return code.Case{Kind: 2, Chan: -9, Val: 99, Target: target} }

// fn is a function with a slot for each letter of kinds, n or a.
func fn(params, caught, result int, kinds string, list ...code.Instr) code.Func {
	f := code.Func{Params: params, Caught: caught, Slots: len(kinds), Result: result, Code: list}
	for _, letter := range kinds {
		f.Kinds = append(f.Kinds, letter == 'a')
	}
	return f
}

// begins is a function of no parameters that answers nothing; it returns behind its list.
func begins(kinds string, list ...code.Instr) code.Func {
	return fn(0, 0, 0, kinds, append(slices.Clone(list), end())...)
}

// module is one of these functions, the first one Main.
func module(cases []code.Case, funcs ...code.Func) code.Module {
	return mapped(code.Module{Shapes: shapes(), Globals: globals(), Consts: consts(), Cases: cases, Funcs: funcs})
}

// mapped lays each function's maps anew.
func mapped(m code.Module) code.Module {
	for n, f := range m.Funcs {
		m.Funcs[n].Maps = live.Maps(m, f)
	}
	return m
}

// world is a machine.
type world struct {
	*vm.Machine
	t *testing.T
}

func begunOn(t *testing.T, spans int, m code.Module) world {
	t.Helper()
	v, e := vm.New(m, spans)
	if v == nil || e != api.OK {
		t.Fatalf("New: %d", e)
	}
	return world{v, t}
}

// begun is a machine of these functions, on a heap of sixteen spans.
func begun(t *testing.T, funcs ...code.Func) world {
	t.Helper()
	return begunOn(t, 16, module(nil, funcs...))
}

// begunBy likewise, with cases.
func begunBy(t *testing.T, cases []code.Case, funcs ...code.Func) world {
	t.Helper()
	return begunOn(t, 16, module(cases, funcs...))
}

// do lets goroutines go on in their first way, one after the other, which must be.
func (w world) do(ids ...int) {
	w.t.Helper()
	for n, id := range ids {
		if !w.Do(id, 0) {
			w.t.Fatalf("the %d. Do(%d, 0) is refused: %s", n, id, w.told())
		}
		w.wantSound("behind Do")
	}
}

// times lets one goroutine go on so often.
func (w world) times(id, often int) {
	w.t.Helper()
	for range often {
		w.do(id)
	}
}

// run lets the first one that may go on do so, in its first way, till all has ended.
func (w world) run() {
	w.t.Helper()
	for range 100000 {
		ids := w.Enabled()
		if len(ids) == 0 {
			return
		}
		w.do(ids[0])
	}
	w.t.Fatalf("it does not end")
}

// told is what was printed, and how it ended.
func (w world) told() string {
	e, trap := w.End()
	return fmt.Sprint(w.Out(), int(e), int(trap))
}

// want wants this to be told.
func (w world) want(where, want string) {
	w.t.Helper()
	if got := w.told(); got != want {
		w.t.Errorf("%s: %s, want %s", where, got, want)
	}
}

// wantRun wants this to be told behind all.
func (w world) wantRun(where, want string) {
	w.t.Helper()
	w.run()
	w.want(where, want)
}

func (w world) wantSound(where string) {
	w.t.Helper()
	if !w.Sound() {
		w.t.Fatalf("%s: not Sound, in phase %d", where, w.phase())
	}
}

// wantEnabled wants these to be enabled.
func (w world) wantEnabled(where string, want ...int) {
	w.t.Helper()
	if got := w.Enabled(); !slices.Equal(got, want) {
		w.t.Errorf("%s: Enabled: %v, want %v", where, got, want)
	}
}

// wantActs wants these to be told, from the one of that number on.
func (w world) wantActs(where string, from int, want string) {
	w.t.Helper()
	if got := fmt.Sprint(w.Acts()[min(from, len(w.Acts())):]); got != want {
		w.t.Errorf("%s: Acts: %s, want %s", where, got, want)
	}
}

func (w world) phase() int { return w.Heap().Cycle().Phase() }

// to goes on with the collector till its phase is this one.
func (w world) to(phase int) {
	w.t.Helper()
	for range 10000 {
		if w.phase() == phase {
			return
		}
		if !w.Collect() {
			w.t.Fatalf("Collect is refused")
		}
	}
	w.t.Fatalf("the phase never is %d", phase)
}

// moment is how far a collection is.
type moment struct {
	name    string
	collect func(w world)
	phase   int
	black   bool // is goroutine 1's stack?
}

// moments are such behind which nothing but the stacks was looked at, if anything.
func moments() []moment {
	stacks := func(w world) {
		w.to(roots)
		for _, id := range w.Stacks() {
			for !w.Heap().Cycle().Black(id) {
				w.Collect()
			}
		}
	}
	return []moment{
		{"off", func(world) {}, off, false},
		{"roots, nobody black", func(w world) { w.to(roots) }, roots, false},
		{"roots, all black", stacks, roots, true},
		{"mark", func(w world) { w.to(marking) }, marking, true},
		{"sweep", func(w world) { w.to(sweeping) }, sweeping, true},
	}
}

// shades tells whether it is in roots or mark.
func (m moment) shades() bool { return m.phase == roots || m.phase == marking }

// at goes to a moment.
func (w world) at(m moment) {
	w.t.Helper()
	m.collect(w)
	if w.phase() != m.phase || w.Heap().Cycle().Black(1) != m.black {
		w.t.Fatalf("%s: phase %d, black %v", m.name, w.phase(), w.Heap().Cycle().Black(1))
	}
}

// wantMarked wants places to be marked, or not.
func (w world) wantMarked(where string, want bool, addrs ...int64) {
	w.t.Helper()
	for _, addr := range addrs {
		if got := w.isMarked(addr); got != want {
			w.t.Errorf("%s: the place %d is marked: %v, want %v", where, addr, got, want)
		}
	}
}

func (w world) isMarked(addr int64) bool {
	w.t.Helper()
	a := w.Heap().Cycle().Arena()
	if !a.Is(addr) {
		w.t.Fatalf("no place begins at %d", addr)
	}
	span := geom.Span(addr)
	return a.Marked(span)>>geom.Place(addr, a.Class(span))&1 == 1
}

// held is the word that a field of an object has.
func (w world) held(addr int64, field int) int64 {
	w.t.Helper()
	v, e := w.Heap().Cycle().Arena().Read(addr, field+1)
	if e != api.OK {
		w.t.Fatalf("no field %d at %d", field, addr)
	}
	return v
}

// lay writes a word of the heap past the machine.
func (w world) lay(addr int64, field int, v int64) {
	w.t.Helper()
	if e := w.Heap().Cycle().Arena().Write(addr, field+1, v); e != api.OK {
		w.t.Fatalf("no field %d at %d", field, addr)
	}
}

// picture tells all that can be told of a machine.
func (w world) picture() string {
	c := w.Heap().Cycle()
	a := c.Arena()
	e, trap := w.End()
	s := fmt.Sprint(e, trap, w.Enabled(), w.Out(), w.Acts(), w.Globals(), w.Stacks(), w.Live(), w.Sound())
	for id := -2; id < 80; id++ {
		s += fmt.Sprint(";", w.Ways(id), w.Stack(id), c.Black(id))
	}
	s += fmt.Sprint(c.Phase(), c.Done(), c.Wants(), c.Marker().Left(), c.Table().Len(), w.Heap().Forced())
	for span := range a.Spans() {
		class := a.Class(span)
		s += fmt.Sprint(";", class, a.Taken(span), a.Marked(span))
		for place := range geom.Places(class) {
			for at := range geom.Words(class) {
				v, _ := a.Read(geom.Addr(span, place, class), at)
				s += fmt.Sprint(",", v)
			}
		}
	}
	return s
}

// wantSame wants calls to change nothing that can be told.
func (w world) wantSame(where string, calls func()) {
	w.t.Helper()
	before := w.picture()
	calls()
	if w.picture() != before {
		w.t.Errorf("%s: something is changed", where)
	}
}

// wantRefused wants a Do to be refused, and to change nothing.
func (w world) wantRefused(where string, id, way int) {
	w.t.Helper()
	w.wantSame(where, func() {
		w.t.Helper()
		if w.Do(id, way) {
			w.t.Errorf("%s: Do(%d, %d) is done", where, id, way)
		}
	})
}

// beyond are numbers that are no goroutine's here, and nobody's way.
func beyond() []int {
	return []int{-1, -2, -64, 65, 128, 1 << 31, 1 << 32, 1<<32 + 1, -1 << 32, math.MaxInt, math.MinInt, math.MinInt + 1}
}
