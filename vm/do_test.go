package vm_test

import (
	"slices"
	"testing"

	"gantline/api"
	"gantline/code"
	"gantline/op"
)

// waiter is a machine whose goroutine 1 stands at a print, 2 waits at a recv, and 3 has returned.
func waiter(t *testing.T) world {
	t.Helper()
	w := begun(t,
		begins("na", in(op.Chan, 1, pipe, 0), in(op.Go, 1, 1), in(op.Go, 2), show(0), show(0), in(op.Close, 1)),
		fn(1, 0, 0, "a", in(op.Recv, op.None, 0, op.None), end()),
		begins(""))
	w.do(1, 1, 1, 3)
	return w
}

// P17.1: Do of nobody, of one that waits, of one that is no more; in a way that there is not.
func TestDoRefused(t *testing.T) {
	w := waiter(t)
	w.wantEnabled("one waits", 1)
	for _, m := range moments() {
		w.at(m)
		for _, id := range append(beyond(), 0, 2, 3, 4, 64) {
			if got := w.Ways(id); got != 0 {
				t.Errorf("%s: Ways(%d): %d", m.name, id, got)
			}
			for _, way := range []int{0, 1, -1} {
				w.wantRefused(m.name, id, way)
			}
		}
		if got := w.Ways(1); got != 1 {
			t.Errorf("%s: Ways(1): %d", m.name, got)
		}
		for _, way := range append(beyond(), 1, 2) {
			w.wantRefused(m.name, 1, way)
		}
	}
	w.wantRun("behind all", "[0 0] 1 0")
}

// P17.1: a way below Ways(id), each of several.
func TestDoEachWay(t *testing.T) {
	for way := range 3 {
		// Three goroutines wait to send their numbers.
		w := begun(t,
			begins("nna", in(op.Chan, 2, pipe, 1), num(0, 11), in(op.Go, 1, 1), in(op.Go, 1, 1), in(op.Go, 1, 1), in(op.Recv, 0, 2, op.None), show(0)),
			fn(2, 0, 0, "nan", in(op.Load, 2, globalNum), num(0, 1), in(op.Add, 2, 2, 0), in(op.Store, globalNum, 2), in(op.Send, 1, 2), end()))
		w.times(1, 5)
		for id := 2; id <= 4; id++ {
			w.times(id, 4)
		}
		w.wantEnabled("a party of four", 1, 2, 3, 4)
		if w.Ways(1) != 3 || w.Ways(2) != 1 {
			t.Fatalf("Ways: %d, %d", w.Ways(1), w.Ways(2))
		}
		w.wantRefused("one too many", 1, 3)
		w.wantRefused("below 0", 1, -1)
		if !w.Do(1, way) {
			t.Fatalf("Do(1, %d) is refused", way)
		}
		w.do(1)
		w.want("what came", []string{"[1] 0 0", "[2] 0 0", "[3] 0 0"}[way])
		left := slices.Delete([]int{2, 3, 4}, way, way+1)
		for _, id := range left {
			if w.Ways(id) != 0 {
				t.Errorf("way %d: goroutine %d goes on", way, id)
			}
		}
		if w.Ways(2+way) != 1 {
			t.Errorf("way %d: its partner does not go on", way)
		}
	}
}

// P17.1: behind each end nothing is done, and nothing is changed; who is there is there still.
func TestBehindEnd(t *testing.T) {
	full := []code.Instr{poll(), in(op.New, 1, wide), in(op.Load, 2, globalRef), in(op.Set, 1, 1, 2), in(op.Store, globalRef, 1), jump(0)}
	for _, x := range []struct {
		end  api.End
		trap api.Trap
		list []code.Instr
	}{
		{api.EndExit, 0, nil},
		{api.EndTrap, api.TrapNil, []code.Instr{in(op.Get, 0, 1, 0)}},
		{api.EndTrap, api.TrapDeep, []code.Instr{in(op.Trap, 6)}},
		{api.EndTrap, api.TrapZero, []code.Instr{in(op.Div, 0, 0, 0)}},
		{api.EndMemory, 0, full},
		{api.EndDeadlock, 0, []code.Instr{in(op.Chan, 1, pipe, 0), in(op.Recv, 0, 1, op.None)}},
	} {
		for _, m := range moments() {
			w := begunOn(t, 9, module(nil, begins("naa", x.list...)))
			w.at(m)
			for w.Do(1, 0) {
			}
			if e, trap := w.End(); e != x.end || trap != x.trap {
				t.Errorf("%s: End: %d, %d, want %d, %d", m.name, e, trap, x.end, x.trap)
			}
			w.wantEnabled("ended")
			w.wantSound("ended")
			if len(w.Stacks()) == 0 != (x.end == api.EndExit) {
				t.Errorf("end %d: Stacks: %v", x.end, w.Stacks())
			}
			for _, id := range []int{-1, 0, 1, 2} {
				for _, way := range []int{-1, 0, 1} {
					w.wantRefused("ended", id, way)
				}
				if w.Ways(id) != 0 {
					t.Errorf("end %d: Ways(%d): %d", x.end, id, w.Ways(id))
				}
			}
			w.wantSame("ended", func() {
				if w.Collect() {
					t.Errorf("end %d: Collect is done", x.end)
				}
			})
		}
	}
}

// P17.1: others that could go on do so no more behind an end.
func TestBehindEndOfOne(t *testing.T) {
	for _, list := range [][]code.Instr{nil, {in(op.Trap, 3)}} {
		w := begun(t, begins("", append([]code.Instr{in(op.Go, 1)}, list...)...), begins("", poll()))
		w.do(1)
		w.wantEnabled("both", 1, 2)
		w.do(1)
		w.wantEnabled("ended")
		w.wantRefused("ended", 2, 0)
		if w.Ways(2) != 0 || !slices.Contains(w.Stacks(), 2) {
			t.Errorf("Ways(2): %d, Stacks: %v", w.Ways(2), w.Stacks())
		}
	}
}

// P17.1: a trap of another goroutine ends all, too; a return of another does not.
func TestEndOfAnother(t *testing.T) {
	w := begun(t, begins("", in(op.Go, 1), in(op.Go, 2), poll()), begins(""), begins("", in(op.Trap, 2)))
	w.do(1, 1, 2)
	w.want("one has returned", "[] 0 0")
	w.do(3)
	w.want("one fell", "[] 2 2")
	w.wantEnabled("ended")
}
