package fresh_test

import (
	"reflect"
	"slices"
	"testing"

	"gantline/code"
	"gantline/fresh"
	"gantline/head"
)

// roomy lays a list into a longer one, filled with something else behind it.
func roomy[T any](list []T, other T) []T {
	whole := append(slices.Clone(list), slices.Repeat([]T{other}, 20)...)
	return whole[:len(list)]
}

// workshop is a module, and its function 1, whose lists all have room behind them.
func workshop() (code.Module, code.Func) {
	kinds := roomy([]bool{true, true, true, true, false, true, true}, false)
	list := roomy([]code.Instr{
		made(0), made(1), set(0, 2, 1), poll(), {Op: 26, A: 2, C: 4}, made(3), {Op: 31, A: 2, B: 4, C: 3}, choose(0, 4), {Op: 20, A: 2, B: 1, C: 3},
		{Op: 21, A: -1, B: 5, C: 2, D: 3}, when(4, 0), {Op: 36, A: 2, B: 1, C: 4}, moved(5, 2), {Op: 28, A: 0, B: 1, C: 5}, {Op: 24, A: 5, B: 1, C: 2}, choose(1, 2), jump(4), {Op: 22, A: 6},
	}, made(6))
	f := code.Func{Params: 3, Caught: 2, Slots: 7, Result: 2, Kinds: kinds, Code: list, Maps: roomy(make([]uint64, 18), 7)}
	return code.Module{
		Shapes:  roomy([]head.Shape{{Fields: 1}}, head.Shape{Kind: 9}),
		Globals: roomy([]bool{true}, true),
		Consts:  roomy([]int64{4}, 9),
		Cases:   roomy([]code.Case{{Chan: 5, Val: 3, Target: 8}, {Kind: 1, Chan: 6, Val: 2, Target: 11}, {Kind: 2, Target: 3}, {Chan: 6, Val: -1, Target: 17}}, code.Case{Chan: 0, Val: 0}),
		Funcs:   roomy([]code.Func{{Params: 1}, f}, code.Func{Params: 8, Caught: 8}),
	}, f
}

// whole is all that can be told of a module and a function, spare room too.
func whole(m code.Module, f code.Func) []any {
	all := []any{m.Main, f.Params, f.Caught, f.Slots, f.Result,
		slices.Clone(m.Shapes[:cap(m.Shapes)]), slices.Clone(m.Globals[:cap(m.Globals)]), slices.Clone(m.Consts[:cap(m.Consts)]), slices.Clone(m.Cases[:cap(m.Cases)]),
		slices.Clone(f.Kinds[:cap(f.Kinds)]), slices.Clone(f.Code[:cap(f.Code)]), slices.Clone(f.Maps[:cap(f.Maps)])}
	for _, g := range m.Funcs[:cap(m.Funcs)] {
		all = append(all, g.Params, g.Caught, g.Slots, g.Result, len(g.Kinds), len(g.Code), len(g.Maps))
	}
	return all
}

// spares are the answers of Spare, place by place.
func spares(m code.Module, f code.Func) []bool {
	var list []bool
	for pc := -1; pc <= len(f.Code); pc++ {
		list = append(list, fresh.Spare(m, f, pc))
	}
	return list
}

// R4: nothing that is handed in is changed.
func TestLeavesWhatIsHandedIn(t *testing.T) {
	m, f := workshop()
	before := whole(m, f)
	fresh.Sets(m, f)
	if !reflect.DeepEqual(whole(m, f), before) {
		t.Fatalf("Sets changed what it was handed")
	}
	if list := spares(m, f); !slices.Contains(list, true) {
		t.Errorf("nothing is spare: %v", list)
	}
	if !reflect.DeepEqual(whole(m, f), before) {
		t.Fatalf("Spare changed what it was handed")
	}
	wantPlain(t, "workshop", m, f)
}

// scribble overwrites a list with its spare room.
func scribble(list []fresh.State) {
	list = list[:cap(list)]
	for k := range list {
		list[k] = fresh.State{Young: !list[k].Young, Own: !list[k].Own, Written: ^list[k].Written}
	}
}

// R4: what is answered shares nothing with what is handed in, nor with another answer, nor do two lists of one answer.
func TestSharesNothing(t *testing.T) {
	m, f := workshop()
	before := whole(m, f)
	for _, f.Slots = range []int{1, 3, 7, 64, 99} {
		before[3] = f.Slots
		want := plainSets(m, f)
		for pc := range f.Code {
			first, second := fresh.Sets(m, f), fresh.Sets(m, f)
			scribble(first[pc])
			for other := range first {
				if other != pc && !slices.Equal(first[other], want[other]) {
					t.Fatalf("the lists of %d and %d share something", pc, other)
				}
			}
			if !sameSets(second, want) || !sameSets(fresh.Sets(m, f), want) || !reflect.DeepEqual(whole(m, f), before) {
				t.Fatalf("the list of %d shares something", pc)
			}
			clear(first[:cap(first)])
			if !sameSets(second, want) {
				t.Fatalf("two answers share something")
			}
		}
	}
}

// R4: nothing that is handed in is kept: an answer stays as it was when all of that is overwritten.
func TestKeepsNothing(t *testing.T) {
	m, f := workshop()
	got := fresh.Sets(m, f)
	n, g := workshop()
	want := plainSets(n, g)
	clear(m.Cases[:cap(m.Cases)])
	clear(m.Funcs[:cap(m.Funcs)])
	clear(f.Kinds[:cap(f.Kinds)])
	clear(f.Code[:cap(f.Code)])
	if !sameSets(got, want) {
		t.Errorf("%s, want %s", tellAll(got), tellAll(want))
	}
	if !sameSets(fresh.Sets(n, g), want) || !slices.Equal(spares(n, g), spares(n, g)) {
		t.Errorf("asked again it answers otherwise")
	}
}

// R4: nil and an empty list are one.
func TestNilAndEmpty(t *testing.T) {
	f := function(2, made(0), set(0, 0, 1), choose(0, 0), code.Instr{Op: 20, A: 1})
	g := f
	f.Kinds, g.Kinds = nil, []bool{}
	m := code.Module{Cases: []code.Case{}, Funcs: []code.Func{}}
	if !sameSets(fresh.Sets(m, f), fresh.Sets(code.Module{}, g)) || !slices.Equal(spares(m, f), spares(code.Module{}, g)) {
		t.Errorf("nil is not empty")
	}
}
