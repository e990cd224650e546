package vm_test

import (
	"slices"
	"testing"

	"gantline/api"
	"gantline/code"
	"gantline/cycle"
	"gantline/op"
	"gantline/vm"
)

// A machine is whom its collections serve.
var _ cycle.Roots = (*vm.Machine)(nil)

// P17.2: Globals: addresses but 0, in their order; numbers are none.
func TestGlobals(t *testing.T) {
	w := begun(t, begins("naa", num(0, 64), in(op.Store, globalNum, 0), in(op.New, 1, pair), in(op.Store, globalRef2, 1), in(op.New, 2, pair), in(op.Store, globalRef, 2), in(op.Store, globalRef, 1), in(op.Nil, 1), in(op.Store, globalRef2, 1)))
	for n, want := range [][]int64{nil, nil, nil, nil, {64}, {64}, {68, 64}, {64, 64}, {64, 64}, {64}} {
		if got := w.Globals(); !slices.Equal(got, want) {
			t.Errorf("behind %d: Globals: %v, want %v", n, got, want)
		}
		w.do(1)
	}
}

// P17.2: Stacks and Stack: who is there, and what the maps name of each; of nobody nothing.
func TestStacks(t *testing.T) {
	w := begun(t,
		begins("naa", in(op.New, 1, pair), in(op.New, 2, pair), in(op.Go, 1, 1), in(op.Call, op.None, 1, 2), in(op.Get, 0, 1, 0)),
		fn(1, 0, 0, "an", poll(), in(op.Get, 1, 0, 0), poll(), end()))
	w.times(1, 4)
	want := func(where string, stacks []int, held ...[]int64) {
		t.Helper()
		if got := w.Stacks(); !slices.Equal(got, stacks) {
			t.Errorf("%s: Stacks: %v, want %v", where, got, stacks)
		}
		for n, id := range stacks {
			if got := w.Stack(id); !slices.Equal(got, held[n]) {
				t.Errorf("%s: Stack(%d): %v, want %v", where, id, got, held[n])
			}
		}
		for _, id := range append(beyond(), 0, 3, 64) {
			if got := w.Stack(id); len(got) != 0 {
				t.Errorf("%s: Stack(%d): %v", where, id, got)
			}
		}
	}
	want("two calls", []int{1, 2}, []int64{64, 68, 68}, []int64{64})
	w.do(1, 1)
	want("the argument is read", []int{1, 2}, []int64{64, 68}, []int64{64})
	w.do(1, 1, 2, 2)
	want("the call has returned", []int{1, 2}, []int64{64}, nil)
	w.do(2, 2)
	want("one is no more", []int{1}, []int64{64})
	if got := w.Stack(2); len(got) != 0 {
		t.Errorf("Stack(2): %v", got)
	}
	w.do(1)
	want("nothing is read later", []int{1}, nil)
	w.do(1)
	want("all ended", nil)
}

// chain is a machine with a list of three pairs that a global leads to, one that a slot leads to, one that nobody does; it stands ahead of a poll.
func chain(t *testing.T) world {
	t.Helper()
	w := begun(t, begins("naaa",
		in(op.New, 1, pair), in(op.New, 2, pair), in(op.Set, 2, 1, 1), in(op.New, 1, pair), in(op.Set, 1, 1, 2), in(op.Store, globalRef, 1),
		in(op.New, 3, pair), in(op.New, 1, pair), in(op.New, 2, pair), in(op.Set, 2, 1, 3), poll(), in(op.Get, 0, 2, 0), poll()))
	w.times(1, 10)
	return w
}

// P17.2, P17.3: Live and Sound in each phase: all that can be come to, rising, once.
func TestLive(t *testing.T) {
	for _, m := range moments() {
		w := chain(t)
		w.at(m)
		// 80 is nobody's.
		if got := w.Live(); !slices.Equal(got, []int64{64, 68, 72, 76, 84}) || !w.Sound() {
			t.Errorf("%s: Live: %v, Sound: %v", m.name, got, w.Sound())
		}
		w.wantSame(m.name, func() {
			w.Live()
			w.Sound()
		})
		w.do(1, 1)
		if got := w.Live(); !slices.Equal(got, []int64{64, 68, 72}) || !w.Sound() {
			t.Errorf("%s: Live behind all: %v, Sound: %v", m.name, got, w.Sound())
		}
	}
}

// P17.3: what is given back by hand is missed: by a map, by a global, by a field of an object, of an array, of a closure, of a channel.
func TestNotSound(t *testing.T) {
	ends := []code.Instr{poll(), in(op.Same, 0, 1, 2), in(op.Same, 0, 3, 3)}
	one := []code.Instr{num(0, 1), in(op.New, 1, pair)}
	for name, list := range map[string][]code.Instr{
		"a slot":    {poll()},
		"a global":  {in(op.Store, globalRef, 1), in(op.Nil, 1)},
		"an object": {in(op.New, 2, wide), in(op.Set, 2, 61, 1), in(op.Nil, 1)},
		"an array":  {in(op.Array, 2, refs, 0), num(0, 0), in(op.Put, 2, 0, 1), in(op.Nil, 1)},
		"a closure": {in(op.Closure, 2, 1, 1), in(op.Nil, 1)},
		"a channel": {num(0, 4), in(op.Chan, 2, pipes, 0), in(op.Send, 2, 1), in(op.Nil, 1)},
		"a number":  {num(0, 64), in(op.Store, globalNum, 0), in(op.New, 2, wide), in(op.Set, 2, 0, 0), in(op.Nil, 1)},
		"nobody":    {in(op.New, 2, wide), in(op.Set, 2, 61, 1), in(op.Nil, 1), in(op.Nil, 2)},
	} {
		all := append(slices.Clone(one), list...)
		w := begun(t, begins("naaa", append(all, ends...)...), fn(0, 3, 0, "aaa", end()))
		w.times(1, len(all))
		a := w.Heap().Cycle().Arena()
		a.Clear()
		a.Sweep(1)
		if a.Is(64) {
			t.Fatalf("%s: it is still there", name)
		}
		if got, want := w.Sound(), name == "a number" || name == "nobody"; got != want {
			t.Errorf("%s: Sound: %v", name, got)
		}
	}
}

// P17.3: a word that is no address at all is missed, too; Live tells what is there.
func TestNotSoundOfAnyWord(t *testing.T) {
	for _, word := range []int64{1, 63, 65, 66, 16 * 64, 512 * 64, 1 << 32, -1, -64, least, greatest} {
		w := begun(t, begins("na", in(op.New, 1, pair), poll(), in(op.Get, 0, 1, 0)))
		w.do(1)
		w.lay(64, 0, word)
		if !w.Sound() {
			t.Errorf("a number %d: not Sound", word)
		}
		w.lay(64, 1, word)
		if w.Sound() {
			t.Errorf("an address %d: Sound", word)
		}
		if got := w.Live(); !slices.Equal(got, []int64{64}) {
			t.Errorf("Live: %v", got)
		}
		w.lay(64, 1, 64)
		if !w.Sound() {
			t.Errorf("its own address: not Sound")
		}
	}
}

// spoil writes into a list and its spare room.
func spoil[T any](list []T, with T) {
	list = list[:cap(list)]
	for n := range list {
		list[n] = with
	}
}

// R4: what is answered is new memory, spare room too.
func TestNewMemory(t *testing.T) {
	w := begun(t,
		begins("naa", in(op.New, 1, pair), in(op.New, 2, pair), in(op.Set, 1, 1, 2), in(op.Store, globalRef, 1), in(op.Store, globalRef2, 2), in(op.Go, 1), in(op.Go, 1), show(0), show(0), show(0), in(op.Same, 0, 1, 2), show(0)),
		begins("", poll()))
	w.times(1, 9)
	w.wantSame("spoiled answers", func() {
		spoil(w.Enabled(), 9)
		spoil(w.Out(), 9)
		spoil(w.Acts(), vm.Act{ID: 9})
		spoil(w.Globals(), 9)
		spoil(w.Stacks(), 9)
		spoil(w.Stack(1), 9)
		spoil(w.Live(), 9)
	})
	// Nor does what is done later change what was answered.
	out, acts, enabled, stacks, live := w.Out(), w.Acts(), w.Enabled(), w.Stacks(), w.Live()
	copies := [][]int64{slices.Clone(out), slices.Clone(live)}
	ids := [][]int{slices.Clone(enabled), slices.Clone(stacks)}
	told := slices.Clone(acts)
	w.run()
	if !slices.Equal(out, copies[0]) || !slices.Equal(live, copies[1]) || !slices.Equal(enabled, ids[0]) || !slices.Equal(stacks, ids[1]) || !slices.Equal(acts, told) {
		t.Errorf("an answer was changed later")
	}
	w.want("all", "[0 0 0 0] 1 0")
	spoil(w.Out(), 9)
	w.want("spoiled behind the end", "[0 0 0 0] 1 0")
}

// P17.1: Heap is the machine's own.
func TestHeap(t *testing.T) {
	w := begun(t, begins("na", in(op.New, 1, pair), in(op.Get, 0, 1, 0), show(0)))
	w.do(1)
	if w.Heap() != w.Heap() {
		t.Errorf("another heap")
	}
	if trap := w.Heap().Set(w.Stack(1)[0], 0, 77, false, false, 1); trap != api.TrapNone {
		t.Fatalf("Set: %d", trap)
	}
	w.wantRun("what was written there", "[77] 1 0")
}
