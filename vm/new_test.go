package vm_test

import (
	"math"
	"slices"
	"testing"

	"gantline/api"
	"gantline/code"
	"gantline/head"
	"gantline/op"
	"gantline/verify"
	"gantline/vm"
)

// wantNone wants New to be refused.
func wantNone(t *testing.T, where string, m code.Module, spans int, want api.Errno) {
	t.Helper()
	if v, e := vm.New(m, spans); v != nil || e != want {
		t.Errorf("%s, on %d spans: New: %v, %d, want %d", where, spans, v != nil, e, want)
	}
}

// plainModule prints a global, and exits.
func plainModule() code.Module {
	return module(nil, begins("na", in(op.Load, 0, globalNum), show(0)))
}

// faults are modules that may not be run, by the rules of chapter 12.
func faults() map[int][]code.Module {
	with := func(change func(m *code.Module)) code.Module {
		m := plainModule()
		change(&m)
		return m
	}
	first := func(i code.Instr) code.Module {
		return with(func(m *code.Module) { m.Funcs[0].Code[0] = i })
	}
	young := module(nil, begins("naa", in(op.New, 1, pair), in(op.New, 2, pair), poll(), in(op.Setn, 1, 1, 2)))
	return map[int][]code.Module{
		1: {
			{}, with(func(m *code.Module) { m.Shapes[0].Map = 4 }), with(func(m *code.Module) { m.Consts[0] = 1 << 62 }),
			with(func(m *code.Module) { m.Funcs = nil }), with(func(m *code.Module) { m.Globals = make([]bool, 257) }),
			with(func(m *code.Module) { m.Shapes = make([]head.Shape, 1025) }),
		},
		2: {
			with(func(m *code.Module) { m.Main = 1 }), with(func(m *code.Module) { m.Main = -1 }),
			with(func(m *code.Module) { m.Funcs[0].Params = 1 }), with(func(m *code.Module) { m.Funcs[0].Result = 1 }),
		},
		3: {
			with(func(m *code.Module) { m.Funcs[0].Kinds = nil }), with(func(m *code.Module) { m.Funcs[0].Maps = nil }),
			with(func(m *code.Module) { m.Funcs[0].Code = nil }), with(func(m *code.Module) { m.Funcs[0].Slots = 65 }),
		},
		4:  {first(in(45)), first(in(-1)), first(show(2)), first(show(-1))},
		5:  {first(in(op.Load, 0, 4)), first(in(op.New, 1, nums)), first(in(op.Trap, 0)), first(in(op.Call, op.None, 1))},
		6:  {first(show(1)), first(in(op.Load, 1, globalNum)), first(in(op.Nil, 0))},
		7:  {first(jump(3)), first(jump(-1)), with(func(m *code.Module) { m.Funcs[0].Code[2] = poll() })},
		8:  {first(jump(0)), first(in(op.If, 0, 0))},
		9:  {with(func(m *code.Module) { m.Funcs[0].Maps[0] = 1 }), with(func(m *code.Module) { m.Funcs[0].Maps[2] = 2 })},
		10: {young},
	}
}

// P17.1: EBAD of each kind of fault, ahead of heap's error.
func TestNewOfFaults(t *testing.T) {
	for rule, list := range faults() {
		for n, m := range list {
			if fault, ok := verify.Check(m); ok || fault.Rule != rule {
				t.Errorf("rule %d, module %d: Check: %v", rule, n, fault)
			}
			for _, spans := range []int{8, 16, 512, 7, 513, 0, -1, math.MinInt, math.MaxInt} {
				wantNone(t, "a fault", m, spans, api.EBAD)
			}
		}
	}
}

// P17.1: heap's error.
func TestNewOfSpans(t *testing.T) {
	for _, spans := range []int{7, 6, 1, 0, -1, -8, 513, 514, 1 << 32, 1<<32 + 8, math.MaxInt, math.MinInt} {
		wantNone(t, "spans", plainModule(), spans, api.EARG)
	}
	for _, spans := range []int{8, 9, 511, 512} {
		w := begunOn(t, spans, plainModule())
		if got := w.Heap().Cycle().Arena().Spans(); got != spans {
			t.Errorf("%d spans, want %d", got, spans)
		}
	}
}

// P17.1: what a new one is.
func TestNew(t *testing.T) {
	m := module(nil, begins("na", in(op.Trap, 1)), begins("na", in(op.Load, 0, globalNum), show(0), in(op.Load, 0, globalNum2), show(0), in(op.Load, 1, globalRef), in(op.Load, 1, globalRef2), show(0)))
	m.Main = 1
	w := begunOn(t, 8, m)
	w.want("new", "[] 0 0")
	w.wantEnabled("new", 1)
	w.wantActs("new", 0, "[]")
	if !slices.Equal(w.Stacks(), []int{1}) || len(w.Stack(1)) != 0 || len(w.Globals()) != 0 || len(w.Live()) != 0 || w.Ways(1) != 1 || w.phase() != off {
		t.Errorf("a new one has something")
	}
	if got := w.Heap().Cycle().Table().Len(); got != shapeEnd {
		t.Errorf("%d shapes, want %d", got, shapeEnd)
	}
	w.do(1, 1, 1, 1, 1)
	if len(w.Globals()) != 0 {
		t.Errorf("globals that are not 0: %v", w.Globals())
	}
	w.wantRun("globals are 0", "[0 0 0] 1 0")
}

// spoilModule writes noughts into all lists of a module.
func spoilModule(m code.Module) {
	clear(m.Shapes)
	clear(m.Globals)
	clear(m.Consts)
	clear(m.Cases)
	for _, f := range m.Funcs {
		clear(f.Kinds)
		clear(f.Code)
		clear(f.Maps)
	}
	clear(m.Funcs)
}

// P17.1: New keeps a copy of m, of all its lists: a machine whose module is spoiled goes on as another does.
func TestNewKeepsCopy(t *testing.T) {
	make := func() code.Module {
		return module([]code.Case{gets(2, 1, 13), other(12)}, begins("nnaa",
			num(0, 5), show(0), in(op.Store, globalNum, 0), in(op.New, 3, pair), in(op.Set, 3, 0, 0), in(op.Set, 3, 1, 3), in(op.Store, globalRef, 3), in(op.Call, 1, 1, 0), show(1), in(op.Get, 3, 3, 1), in(op.Set, 3, 1, 3),
			choose(0, 2), jump(13), in(op.New, 2, wide), in(op.Same, 0, 2, 3), show(0)),
			fn(1, 0, 1, "na", in(op.New, 1, pair), in(op.Set, 1, 1, 1), in(op.Return, 0)))
	}
	for after := range 20 {
		m := make()
		w, other := begunOn(t, 8, m), begunOn(t, 8, make())
		w.times(1, min(after, 18))
		other.times(1, min(after, 18))
		spoilModule(m)
		for {
			if w.picture() != other.picture() {
				t.Fatalf("spoiled behind %d, it is another", after)
			}
			if !w.Do(1, 0) {
				break
			}
			w.Collect()
			other.do(1)
			other.Collect()
		}
		w.want("spoiled", "[5 5 0] 1 0")
	}
}

// R4: m is not changed, spare room included, neither by New nor by what is done.
func TestModuleUnchanged(t *testing.T) {
	d := dice(3)
	for range 20 {
		m := d.module()
		spare := m
		spare.Cases = append(slices.Clone(m.Cases), make([]code.Case, 3)...)
		m.Cases = spare.Cases[:len(m.Cases):len(spare.Cases)]
		before := code.Encode(spare)
		w := begunOn(t, 8, m)
		for range 200 {
			if ids := w.Enabled(); len(ids) == 0 || !w.Do(ids[d.below(len(ids))], 0) || !w.Collect() {
				break
			}
		}
		if !slices.Equal(code.Encode(spare), before) {
			t.Errorf("the module is changed")
		}
	}
}

// P17.1: two machines of one module know nothing of each other.
func TestTwoMachines(t *testing.T) {
	m := module(nil, begins("na", num(0, 7), in(op.Store, globalNum, 0), show(0), in(op.Load, 0, globalNum), show(0)))
	one, two := begunOn(t, 8, m), begunOn(t, 9, m)
	one.times(1, 3)
	two.want("the other one", "[] 0 0")
	one.run()
	two.wantRun("the other one", "[7 7] 1 0")
}
