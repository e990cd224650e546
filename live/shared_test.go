package live_test

import (
	"reflect"
	"slices"
	"testing"

	"gantline/code"
	"gantline/head"
	"gantline/live"
)

// roomy lays a list into a longer one, filled with something else behind it.
func roomy[T any](list []T, other T) []T {
	whole := append(slices.Clone(list), slices.Repeat([]T{other}, 20)...)
	return whole[:len(list)]
}

// workshop is a module, and its function 1, whose lists all have room behind them.
func workshop() (code.Module, code.Func) {
	kinds := roomy([]bool{true, false, true, true, false, true, true}, true)
	list := roomy([]code.Instr{
		{Op: 43}, {Op: 3, A: 1, B: 2, C: 3}, {Op: 41, A: 0, B: 4}, {Op: 20, A: 2, B: 1, C: 3}, {Op: 21, A: -1, B: 5, C: 2, D: 3}, {Op: 19, A: 4, B: 0},
		{Op: 36, A: 2, B: 1, C: 4}, {Op: 24, A: 5, B: 1, C: 2}, {Op: 39, A: 3, B: 6, C: 4}, {Op: 41, A: 1, B: 2}, {Op: 18, A: 3}, {Op: 22, A: 6},
	}, code.Instr{Op: 42, A: 9})
	f := code.Func{Params: 3, Caught: 2, Slots: 7, Result: 2, Kinds: kinds, Code: list, Maps: roomy(make([]uint64, 12), 7)}
	return code.Module{
		Shapes:  roomy([]head.Shape{{Fields: 1}}, head.Shape{Kind: 9}),
		Globals: roomy([]bool{true}, true),
		Consts:  roomy([]int64{4}, 9),
		Cases:   roomy([]code.Case{{Chan: 5, Val: 3, Target: 8}, {Kind: 1, Chan: 6, Val: 2, Target: 11}, {Kind: 2, Target: 3}, {Chan: 6, Val: -1, Target: 3}}, code.Case{Chan: 8, Val: 8}),
		Funcs:   roomy([]code.Func{{Params: 1}, f}, code.Func{Params: 8, Caught: 8}),
	}, f
}

// whole is all that can be told of a module and a function, spare room too.
func whole(m code.Module, f code.Func) []any {
	all := []any{m.Main, f.Params, f.Caught, f.Slots, f.Result,
		slices.Clone(m.Shapes[:cap(m.Shapes)]), slices.Clone(m.Globals[:cap(m.Globals)]), slices.Clone(m.Consts[:cap(m.Consts)]), slices.Clone(m.Cases[:cap(m.Cases)]),
		slices.Clone(f.Kinds[:cap(f.Kinds)]), slices.Clone(f.Code[:cap(f.Code)]), slices.Clone(f.Maps[:cap(f.Maps)])}
	for _, g := range m.Funcs[:cap(m.Funcs)] {
		all = append(all, g.Params, g.Caught, g.Slots, g.Result, len(g.Kinds), len(g.Code), len(g.Maps))
	}
	return all
}

// calls are all that can be asked of it.
func calls(m code.Module, f code.Func) []func() any {
	list := []func() any{
		func() any { return live.Sets(m, f) },
		func() any { return live.Maps(m, f) },
	}
	for pc, i := range f.Code {
		list = append(list,
			func() any { return live.Reads(m, i) },
			func() any { return live.Writes(i) },
			func() any { return live.Follows(m, f, pc) })
	}
	return list
}

// R4: nothing that is handed in is changed.
func TestLeavesWhatIsHandedIn(t *testing.T) {
	m, f := workshop()
	before := whole(m, f)
	for n, call := range calls(m, f) {
		call()
		if !reflect.DeepEqual(whole(m, f), before) {
			t.Fatalf("call %d changed what it was handed", n)
		}
	}
	wantPlain(t, "workshop", m, f)
}

// R4: what is answered shares nothing with what is handed in, nor with another answer: all of it may be overwritten, spare room too.
func TestSharesNothing(t *testing.T) {
	m, f := workshop()
	before := whole(m, f)
	for n, call := range calls(m, f) {
		first, second := reflect.ValueOf(call()), reflect.ValueOf(call())
		want := reflect.ValueOf(call()).Interface()
		first = first.Slice(0, first.Cap())
		for k := range first.Len() {
			if v := first.Index(k); v.CanInt() {
				v.SetInt(^v.Int())
			} else {
				v.SetUint(^v.Uint())
			}
		}
		if !reflect.DeepEqual(second.Interface(), want) || !reflect.DeepEqual(call(), want) || !reflect.DeepEqual(whole(m, f), before) {
			t.Fatalf("call %d: its answer shares something", n)
		}
	}
}

// R4: nothing that is handed in is kept: an answer stays as it was when all of that is overwritten.
func TestKeepsNothing(t *testing.T) {
	m, f := workshop()
	var got, want []any
	for _, call := range calls(m, f) {
		got = append(got, call())
	}
	n, g := workshop()
	for _, call := range calls(n, g) {
		want = append(want, call())
	}
	clear(m.Cases[:cap(m.Cases)])
	clear(m.Funcs[:cap(m.Funcs)])
	clear(f.Kinds[:cap(f.Kinds)])
	clear(f.Code[:cap(f.Code)])
	clear(f.Maps[:cap(f.Maps)])
	if !reflect.DeepEqual(got, want) {
		t.Errorf("what was answered has changed")
	}
	// And it is asked anew: of what is handed in now.
	if sets := live.Sets(m, f); slices.Max(sets) != 0 {
		t.Errorf("Sets of code that reads nothing: %x", sets)
	}
}
