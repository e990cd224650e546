package verify_test

import (
	"reflect"
	"slices"
	"testing"

	"gantline/api"
	"gantline/code"
	"gantline/head"
	"gantline/verify"
)

// roomy lays a list into a longer one, filled with something else behind it.
func roomy[T any](list []T, other T) []T {
	whole := append(slices.Clone(list), slices.Repeat([]T{other}, 20)...)
	return whole[:len(list)]
}

// roomyModule is a module all of whose lists have room behind them.
func roomyModule(m code.Module) code.Module {
	for n, f := range m.Funcs {
		f.Kinds, f.Code, f.Maps = roomy(f.Kinds, true), roomy(f.Code, code.Instr{Op: 99, A: 9}), roomy(f.Maps, 7)
		m.Funcs[n] = f
	}
	m.Shapes, m.Globals, m.Consts = roomy(m.Shapes, head.Shape{Kind: 9}), roomy(m.Globals, true), roomy(m.Consts, 1<<62)
	m.Cases, m.Funcs = roomy(m.Cases, code.Case{Kind: 9}), roomy(m.Funcs, code.Func{Params: 9})
	return m
}

func full[T any](list []T) []T { return slices.Clone(list[:cap(list)]) }

// all is what can be told of a module, spare room too.
func all(m code.Module) []any {
	list := []any{m.Main, full(m.Shapes), full(m.Globals), full(m.Consts), full(m.Cases), len(m.Shapes), len(m.Globals), len(m.Consts), len(m.Cases), len(m.Funcs)}
	for _, f := range m.Funcs[:cap(m.Funcs)] {
		list = append(list, f.Params, f.Caught, f.Slots, f.Result, full(f.Kinds), full(f.Code), full(f.Maps), len(f.Kinds), len(f.Code), len(f.Maps))
	}
	return list
}

// some are modules that are well, and such as have a fault at each rule.
func some() []code.Module {
	list := []code.Module{yard(), works(), selects([]code.Instr{choose(0, 4), choose(4, 4)}, []code.Instr{choose(0, 1)}), written(made(4), made(5), setn(4, 0, 5), setn(4, 0, 5))}
	for _, i := range goods() {
		list = append(list, yardWith(i))
	}
	for _, i := range []code.Instr{{Op: 45}, {Op: 1, A: 99}, {Op: 0, B: 99}, {Op: 0, A: 4}, jump(99), jump(place), {Op: 32, A: 4, C: 5}} {
		list = append(list, yardWith(i))
	}
	wrong := []func(m *code.Module){
		func(m *code.Module) { m.Consts[0] = 1 << 62 },
		func(m *code.Module) { m.Main = 99 },
		func(m *code.Module) { m.Funcs[5].Result = 9 },
		func(m *code.Module) { m.Funcs[5].Maps[0] = 9 },
	}
	for _, change := range wrong {
		m := works()
		change(&m)
		list = append(list, m)
	}
	return list
}

// R4: nothing that is handed in is changed, spare room included; R5: asked again it says the same.
func TestLeavesWhatIsHandedIn(t *testing.T) {
	rules := map[int]int{}
	for k, plain := range some() {
		m := roomyModule(plain)
		before := all(m)
		first, ok := verify.Check(m)
		again, okAgain := verify.Check(m)
		if first != again || ok != okAgain || verify.Module(m) != ok {
			t.Errorf("module %d: %v, then %v", k, first, again)
		}
		if !reflect.DeepEqual(all(m), before) {
			t.Errorf("module %d was changed", k)
		}
		wantFault(t, "with room", m, first)
		rules[first.Rule]++
	}
	for rule := range 11 {
		if rules[rule] == 0 {
			t.Errorf("no rule %d", rule)
		}
	}
}

// R4: nothing is kept of what was handed in: a module that is overwritten is asked anew.
func TestKeepsNothing(t *testing.T) {
	m := works()
	wantGood(t, "ahead", m)
	m.Funcs[0].Code[10].Op = 45
	wantFault(t, "overwritten", m, fault(0, 10, 4))
	m.Funcs[0].Code[10] = end()
	m.Cases[0].Kind = 7
	wantFault(t, "a case overwritten", m, fault(0, 6, 5))
	m.Cases[0].Kind = 0
	wantGood(t, "behind", m)
}

// R4: nil and an empty list are one.
func TestNilAndEmpty(t *testing.T) {
	m := code.Module{Funcs: []code.Func{function(0, 0, 0, "", end())}}
	wantGood(t, "nil", m)
	m.Shapes, m.Globals, m.Consts, m.Cases, m.Funcs[0].Kinds = []head.Shape{}, []bool{}, []int64{}, []code.Case{}, []bool{}
	wantGood(t, "empty", m)
	m.Funcs[0].Code, m.Funcs[0].Maps = nil, nil
	wantFault(t, "no code", m, ofFunc(0))
	m.Funcs[0].Code, m.Funcs[0].Maps = []code.Instr{}, []uint64{}
	wantFault(t, "empty code", m, ofFunc(0))
}

// T5: a module that was made bytes and read back has the same fault, or none.
func TestThroughBytes(t *testing.T) {
	for k, m := range some() {
		want, _ := verify.Check(m)
		back, e := code.Decode(code.Encode(m))
		if e != api.OK {
			t.Fatalf("module %d: %v", k, e)
		}
		wantFault(t, "read back", back, want)
	}
}
