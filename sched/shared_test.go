package sched_test

import (
	"reflect"
	"slices"
	"testing"

	"gantline/api"
	"gantline/code"
	"gantline/head"
	"gantline/sched"
)

// roomy lays a list into a longer one, filled with something else behind it.
func roomy[T any](list []T, other T) []T {
	whole := append(slices.Clone(list), slices.Repeat([]T{other}, 20)...)
	return whole[:len(list)]
}

func full[T any](list []T) []T { return slices.Clone(list[:cap(list)]) }

// roomyModule is one all of whose lists have room behind them.
func roomyModule() code.Module {
	m := code.Module{Shapes: roomy(shapes(), head.Shape{Kind: 9}), Globals: roomy([]bool{true}, true), Consts: roomy([]int64{4}, 9)}
	m.Cases = roomy([]code.Case{gets(a, num), puts(b, num), other()}, code.Case{Kind: 9})
	for _, i := range []code.Instr{choose(0, 3), send(a, num), recv(none, b), poll()} {
		f := standing(i)
		f.Kinds, f.Code, f.Maps = roomy(f.Kinds, true), roomy(f.Code, poll()), roomy(f.Maps, 7)
		m.Funcs = append(m.Funcs, f)
	}
	m.Funcs = roomy(m.Funcs, code.Func{Params: 1, Slots: 3})
	return m
}

// wholeModule is what can be told of a module, spare room too.
func wholeModule(m code.Module) []any {
	list := []any{m.Main, full(m.Shapes), full(m.Globals), full(m.Consts), full(m.Cases)}
	for _, f := range m.Funcs[:cap(m.Funcs)] {
		list = append(list, f.Params, f.Caught, f.Slots, f.Result, full(f.Kinds), full(f.Code), full(f.Maps))
	}
	return list
}

// filled has a goroutine at each function of the module, with channels without room.
func filled(t *testing.T, m code.Module) *world {
	t.Helper()
	w := begunOf(t, m)
	first, second := w.channel(pipe, 0), w.channel(pipe, 0)
	for fn := range m.Funcs {
		w.add(fn, first, second)
	}
	return w
}

const filledWays = "1[{0 2 -1} {1 3 -1}] 2[{-1 1 0}] 3[{-1 1 1}] 4[{-1 0 -1}] [1 2 3 4]"

// R4: the module is not changed, spare room included, by any call.
func TestLeavesModule(t *testing.T) {
	m := roomyModule()
	before := wholeModule(m)
	w := filled(t, m)
	w.want("filled", filledWays)
	w.g.Add(9, nil)
	w.g.Drop(2)
	w.told()
	w.g.Stack(1).Set(num, 3)
	if !reflect.DeepEqual(wholeModule(m), before) {
		t.Errorf("the module is changed")
	}
}

// R4: the module is not kept: what is written into it later changes nothing.
func TestKeepsNoModule(t *testing.T) {
	m := roomyModule()
	w := filled(t, m)
	clear(m.Cases[:cap(m.Cases)])
	for _, f := range m.Funcs {
		clear(f.Code[:cap(f.Code)])
		for k := range f.Kinds {
			f.Kinds[k] = !f.Kinds[k]
		}
	}
	w.want("what it names is written over", filledWays)
	for n := range m.Funcs {
		m.Funcs[n] = code.Func{Params: 9, Caught: 9, Slots: 2}
	}
	w.want("its functions are written over", filledWays)
	if id, e := w.g.Add(3, make([]int64, 3)); id != 5 || e != api.OK {
		t.Errorf("Add: %d, %d", id, e)
	}
	if got := w.g.Ways(w.h, 5); !slices.Equal(got, []sched.Way{{Case: -1, PartnerCase: -1}}) {
		t.Errorf("Ways: %v", got)
	}
	if _, e := w.g.Add(3, make([]int64, 18)); e != api.EARG {
		t.Errorf("Add as the module says now: %d", e)
	}
}

// R4: args are neither changed nor kept, also if they are refused.
func TestKeepsNoArgs(t *testing.T) {
	w := begun(t, nil, poll())
	args := roomy([]int64{7, 8, 9}, 99)
	before := full(args)
	w.g.Add(0, args)
	w.g.Add(0, args[:2])
	w.g.Add(5, args)
	s := w.g.Stack(1)
	for slot := range slots {
		s.Set(slot, int64(-slot))
	}
	if !slices.Equal(full(args), before) {
		t.Errorf("args are changed")
	}
	w.g.Add(0, args)
	clear(args[:cap(args)])
	if f, _ := w.g.Stack(2).Top(); !slices.Equal(f.Slots, []int64{7, 8, 9, 0, 0}) {
		t.Errorf("args are kept: %v", f.Slots)
	}
}

// R4: two tables of one module share nothing.
func TestTwoTables(t *testing.T) {
	m := roomyModule()
	w, v := filled(t, m), filled(t, m)
	w.g.Drop(1)
	w.g.Stack(2).Jump(1)
	v.want("the other one", filledWays)
	v.wantIDs("the other one", 1, 2, 3, 4)
}

// overwrite writes into all of a list, spare room too.
func overwrite[T any](list []T, v T) {
	list = list[:cap(list)]
	for k := range list {
		list[k] = v
	}
}

// R4: what is answered is new memory, spare room too.
func TestAnswersAreNew(t *testing.T) {
	w := filled(t, roomyModule())
	for range 3 {
		overwrite(w.g.IDs(), 77)
		overwrite(w.g.Enabled(w.h), 77)
		for _, id := range []int{1, 2, 3, 4, 5} {
			overwrite(w.g.Ways(w.h, id), sched.Way{Case: 7, Partner: 7, PartnerCase: 7})
		}
		w.wantIDs("written over", 1, 2, 3, 4)
		w.want("written over", filledWays)
	}
	ids, enabled, ways := w.g.IDs(), w.g.Enabled(w.h), w.g.Ways(w.h, 1)
	overwrite(w.g.IDs(), 77)
	overwrite(w.g.Enabled(w.h), 77)
	overwrite(w.g.Ways(w.h, 1), sched.Way{})
	_ = append(ids, 99)
	w.g.Drop(2)
	w.add(3)
	w.add(3)
	w.told()
	if !slices.Equal(ids, []int{1, 2, 3, 4}) || !slices.Equal(enabled, []int{1, 2, 3, 4}) || !slices.Equal(ways, []sched.Way{{Case: 0, Partner: 2, PartnerCase: -1}, {Case: 1, Partner: 3, PartnerCase: -1}}) {
		t.Errorf("an answer was changed: %v, %v, %v", ids, enabled, ways)
	}
}

// R4: nil and an empty list are one.
func TestNilAndEmpty(t *testing.T) {
	m := code.Module{Cases: []code.Case{}, Funcs: []code.Func{{Kinds: []bool{}, Code: []code.Instr{send(0, 0)}, Maps: []uint64{}}, {Code: []code.Instr{choose(0, 0)}}}}
	w := begunOf(t, m)
	for _, args := range [][]int64{nil, {}, make([]int64, 0, 9)} {
		for fn := range 2 {
			if _, e := w.g.Add(fn, args); e != api.OK {
				t.Errorf("Add: %d", e)
			}
		}
	}
	w.want("no lists", "1[{-1 0 -1}] 2[] 3[{-1 0 -1}] 4[] 5[{-1 0 -1}] 6[] [1 3 5]")
}

// P16.2, R5: a collection that goes along changes nothing of what is told, and is changed by nothing that is asked.
func TestInEachPhase(t *testing.T) {
	w := filled(t, roomyModule())
	kept := &keeper{}
	for _, slot := range []int{a, b} {
		kept.list = append(kept.list, w.g.Stack(1).Get(slot))
	}
	phases := map[int]int{}
	w.h.Cycle().Start(kept)
	for range 200 {
		phases[w.h.Cycle().Phase()]++
		w.want("a phase", filledWays)
		w.h.Cycle().Step(kept)
	}
	if len(phases) != 4 {
		t.Errorf("the phases %v", phases)
	}
}

// keeper is whom a collection serves: it holds these addresses.
type keeper struct{ list []int64 }

func (k *keeper) Globals() []int64  { return k.list }
func (k *keeper) Stacks() []int     { return []int{1} }
func (k *keeper) Stack(int) []int64 { return nil }

// P16.2: a channel that was given back is none.
func TestGivenBack(t *testing.T) {
	w := filled(t, roomyModule())
	w.want("held", filledWays)
	w.h.Cycle().Whole(&keeper{list: []int64{w.g.Stack(1).Get(a)}})
	w.want("one is held", "1[{0 2 -1}] 2[{-1 1 0}] 3[{-1 0 -1}] 4[{-1 0 -1}] [1 2 3 4]")
	w.h.Cycle().Whole(&keeper{})
	w.want("none is held", "1[{2 0 -1}] 2[{-1 0 -1}] 3[{-1 0 -1}] 4[{-1 0 -1}] [1 2 3 4]")
}
