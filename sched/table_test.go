package sched_test

import (
	"fmt"
	"testing"

	"gantline/api"
	"gantline/code"
)

// P16.1: a new one has nobody.
func TestNew(t *testing.T) {
	for n, m := range []code.Module{{}, {Funcs: []code.Func{}}, {Funcs: []code.Func{standing(poll())}}} {
		w := begunOf(t, m)
		w.wantIDs("new")
		w.want("new", "[]")
		for _, id := range append(beyond(), 0, 1, 2, 64) {
			if w.g.Stack(id) != nil || len(w.g.Ways(w.h, id)) != 0 {
				t.Errorf("module %d: Stack or Ways of %d", n, id)
			}
			w.g.Drop(id)
		}
		w.wantIDs("new, dropped")
	}
}

// P16.1: from 1 on, rising, up to MaxGos; one more is refused, and uses up no number.
func TestAddToLimit(t *testing.T) {
	w := begun(t, nil, poll())
	var want []int
	for n := range api.MaxGos {
		if id := w.add(0, int64(n)); id != n+1 {
			t.Fatalf("the number %d, want %d", id, n+1)
		}
		want = append(want, n+1)
		w.wantIDs("rising", want...)
	}
	for range 3 {
		w.wantRefused("one past it", 0, make([]int64, 3), api.ELIMIT)
	}
	w.wantIDs("full", want...)
	for _, id := range want {
		if got := w.g.Stack(id).Get(a); got != int64(id-1) {
			t.Errorf("goroutine %d was begun with %d", id, got)
		}
	}
}

// P16.1: ELIMIT comes ahead of frame's error.
func TestLimitComesFirst(t *testing.T) {
	w := begun(t, nil, poll())
	for range api.MaxGos - 1 {
		w.add(0)
	}
	wantAll := func(where string, want api.Errno) {
		t.Helper()
		for _, fn := range append(beyond(), 1) {
			w.wantRefused(where, fn, make([]int64, 3), want)
		}
		for _, args := range []int{0, 2, 4, 64, 65} {
			w.wantRefused(where, 0, make([]int64, args), want)
		}
	}
	wantAll("one below it", api.EARG)
	w.add(0)
	wantAll("at it", api.ELIMIT)
	w.g.Drop(7)
	wantAll("behind a Drop", api.EARG)
	if id := w.add(0); id != api.MaxGos+1 {
		t.Errorf("the number %d", id)
	}
}

// P16.1: frame's error, whatever is wrong; a number is used up by none.
func TestAddRefused(t *testing.T) {
	m := code.Module{Funcs: []code.Func{
		standing(poll()),
		{Params: 1, Caught: 1, Slots: 2},
		{Params: 2, Slots: 1},
		{Params: 1, Caught: 1, Slots: 1},
		{Slots: -1},
		{Slots: api.MaxSlots + 1},
		{Slots: api.MaxSlots},
		{Params: -1, Caught: 1},
	}}
	w, next := begunOf(t, m), 1
	for _, x := range []struct {
		fn, args int
		ok       bool
	}{
		{0, 3, true}, {0, 2, false}, {0, 4, false}, {0, 0, false}, {1, 2, true}, {1, 1, false}, {1, 3, false},
		{2, 2, false}, {3, 2, false}, {4, 0, false}, {5, 0, false}, {6, 0, true}, {7, 0, false},
		{-1, 0, false}, {8, 0, false}, {9, 3, false}, {0, 3, true},
	} {
		if !x.ok {
			w.wantRefused("refused", x.fn, make([]int64, x.args), api.EARG)
			continue
		}
		if id, e := w.g.Add(x.fn, make([]int64, x.args)); id != next || e != api.OK {
			t.Errorf("Add(%d, %d args): %d, %d, want %d", x.fn, x.args, id, e, next)
		}
		next++
	}
	for _, fn := range beyond() {
		w.wantRefused("no such function", fn, nil, api.EARG)
	}
	w.wantIDs("those that were not refused", 1, 2, 3, 4)
}

// P16.1: a goroutine stands at its function's first instruction, its slots its args, then 0.
func TestBegins(t *testing.T) {
	w := begun(t, nil, poll(), send(a, num))
	w.add(1, 7, 8, 9)
	if got := fmt.Sprint(w.g.Stack(1).Frames()); got != "[{1 0 [7 8 9 0 0]}]" {
		t.Errorf("Frames: %s", got)
	}
}

// P16.1: Drop of one, in the middle, first, last; of one that is not there, of one twice.
func TestDrop(t *testing.T) {
	w := begun(t, nil, poll())
	for range 5 {
		w.add(0)
	}
	for _, id := range append(beyond(), 0, 6, 64) {
		w.wantSame("nobody", func() { w.g.Drop(id) })
	}
	for _, x := range []struct {
		id   int
		want []int
	}{
		{3, []int{1, 2, 4, 5}}, {3, []int{1, 2, 4, 5}}, {1, []int{2, 4, 5}}, {5, []int{2, 4}},
		{5, []int{2, 4}}, {0, []int{2, 4}}, {4, []int{2}}, {2, nil}, {2, nil},
	} {
		w.g.Drop(x.id)
		w.wantIDs("dropped", x.want...)
		if len(w.g.Ways(w.h, x.id)) != 0 {
			t.Errorf("Ways of %d, which is no more", x.id)
		}
	}
	w.want("all dropped", "[]")
}

// P16.1: the others stay who they are.
func TestDropLeavesOthers(t *testing.T) {
	w := begun(t, nil, poll())
	for n := range 4 {
		w.add(0, int64(10+n))
	}
	third := w.g.Stack(3)
	w.g.Drop(2)
	if w.g.Stack(3) != third || third.Get(a) != 12 || w.g.Stack(1).Get(a) != 10 || w.g.Stack(4).Get(a) != 13 {
		t.Errorf("another stack")
	}
}

// P16.1: a number is never given twice.
func TestNumbersOnce(t *testing.T) {
	w := begun(t, nil, poll())
	for n := 1; n <= 300; n++ {
		if id := w.add(0); id != n {
			t.Fatalf("the number %d, want %d", id, n)
		}
		switch {
		case n%3 == 0:
			w.g.Drop(n)
		case n%3 == 1:
			w.g.Drop(n - 1)
		default:
			w.g.Drop(n - 1)
			w.g.Drop(n)
		}
		w.wantRefused("no function", 5, nil, api.EARG)
	}
	for range api.MaxGos - len(w.g.IDs()) {
		w.add(0)
	}
	w.wantRefused("full", 0, make([]int64, 3), api.ELIMIT)
	last := w.g.IDs()[api.MaxGos-1]
	w.g.Drop(last)
	if id := w.add(0); id != last+1 {
		t.Errorf("the number %d, want %d", id, last+1)
	}
}

// P16.1: each has a stack of its own, and it is always the same one.
func TestStackIsOwn(t *testing.T) {
	w := begun(t, nil, poll())
	w.add(0, 5)
	w.add(0, 5)
	first := w.g.Stack(1)
	first.Set(a, 6)
	first.Jump(1)
	if w.g.Stack(1) != first || w.g.Stack(1).Get(a) != 6 || w.g.Stack(2).Get(a) != 5 || w.g.Stack(1) == w.g.Stack(2) {
		t.Errorf("the stacks are not their own")
	}
	if f, _ := w.g.Stack(2).Top(); f.PC != 0 {
		t.Errorf("another one's PC is %d", f.PC)
	}
	w.g.Drop(1)
	if w.g.Stack(1) != nil {
		t.Errorf("one that is no more has a stack")
	}
}

// P16.1: what is done to a stack is seen by Ways.
func TestStackIsSeen(t *testing.T) {
	w := begun(t, nil, send(a, num), poll())
	ch := w.channel(pipe, 0)
	w.add(0, ch)
	w.want("a send that waits", "1[] []")
	s := w.g.Stack(1)
	s.Jump(1)
	w.want("a return", "1[{-1 0 -1}] [1]")
	s.Jump(0)
	w.want("the send again", "1[] []")
	s.Set(a, 0)
	w.want("a send to nothing", "1[{-1 0 -1}] [1]")
	s.Set(a, ch)
	s.Call(w.m, 1, make([]int64, 3))
	w.want("a call on top", "1[{-1 0 -1}] [1]")
	s.Return()
	w.want("the call returned", "1[] []")
	s.Return()
	w.want("all returned", "1[] []")
	w.wantIDs("it is still there", 1)
	s.Call(w.m, 1, make([]int64, 3))
	w.want("called again", "1[{-1 0 -1}] [1]")
}
