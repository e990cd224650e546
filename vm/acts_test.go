package vm_test

import (
	"fmt"
	"testing"

	"gantline/code"
	"gantline/op"
)

// actor is a list that does each instruction; 0 to 3 are numbers, 4 to 7 addresses.
func actor() []code.Instr {
	return []code.Instr{
		num(0, 2), in(op.Move, 1, 0), in(op.Nil, 4), in(op.Add, 1, 0, 0), in(op.Sub, 1, 0, 0), in(op.Mul, 1, 0, 0), in(op.Div, 1, 0, 0), in(op.Mod, 1, 0, 0),
		in(op.And, 1, 0, 0), in(op.Or, 1, 0, 0), in(op.Xor, 1, 0, 0), in(op.Shl, 1, 0, 0), in(op.Shr, 1, 0, 0), in(op.Lt, 1, 0, 0), in(op.Le, 1, 0, 0),
		in(op.Eq, 1, 0, 0), in(op.Same, 1, 4, 4), in(op.Not, 1, 0), in(op.Jump, 19), in(op.If, 0, 20), in(op.Call, op.None, 1, 0),
		in(op.Closure, 5, 1, 0), in(op.Callc, op.None, 5, 0, 0), in(op.Go, 1, 0), in(op.Goc, 5, 0, 0), in(op.New, 6, pair), in(op.Array, 7, nums, 0),
		in(op.Get, 1, 6, 0), in(op.Set, 6, 0, 0), in(op.Setn, 6, 0, 0), in(op.At, 1, 7, 1), in(op.Put, 7, 1, 0), in(op.Putn, 7, 1, 0), in(op.Len, 1, 7),
		in(op.Load, 1, globalNum), in(op.Store, globalNum, 0), in(op.Chan, 4, pipe, 0), in(op.Send, 4, 0), in(op.Recv, 1, 4, op.None), in(op.Close, 4),
		choose(0, 1), show(0), poll(),
	}
}

// P17.2: an Act for each of the Ops 23 to 42 but 36, and for the last return; none for any other.
func TestActsOfEach(t *testing.T) {
	list := actor()
	w := begunBy(t, []code.Case{other(41)}, begins("nnnnaaaa", list...), begins("", poll()))
	seen := map[int]int{}
	for pc := 0; pc < len(list); pc++ {
		i := list[pc]
		before := len(w.Acts())
		w.do(1)
		want := "[]"
		if i.Op >= 23 && i.Op <= 42 && i.Op != 36 {
			way := "-1 0 -1"
			if i.Op == op.Select {
				way = "0 0 -1"
			}
			want = fmt.Sprintf("[{1 %d 0 %d {%s}}]", i.Op, pc, way)
		}
		w.wantActs(code.Show(i), before, want)
		seen[i.Op]++
		if i.Op == op.Call || i.Op == op.Callc {
			w.do(1, 1) // a poll, and a return that is not its last
			w.wantActs("in a call", before, "[]")
		}
	}
	for o := range 45 {
		if seen[o] == 0 && o != op.Trap && o != op.Return {
			t.Errorf("%s was not done", code.Name(o))
		}
	}
	before := len(w.Acts())
	w.do(3, 3, 2, 1)
	w.wantActs("returns", before, fmt.Sprintf("[{3 22 1 1 {-1 0 -1}} {1 22 0 %d {-1 0 -1}}]", len(list)))
	w.want("all", "[2] 1 0")
}

// P17.2: an instruction that ended in a trap is no Act: each that can trap.
func TestNoActsOfTraps(t *testing.T) {
	for _, i := range []code.Instr{
		in(op.Goc, 4, 0, 0), in(op.Array, 7, nums, 1), in(op.Get, 1, 4, 0), in(op.Set, 4, 0, 0), in(op.Setn, 4, 0, 0), in(op.At, 1, 4, 0), in(op.Put, 4, 0, 0), in(op.Putn, 4, 0, 0),
		in(op.Len, 1, 4), in(op.Chan, 4, pipe, 1), in(op.Send, 4, 0), in(op.Recv, 1, 4, op.None), in(op.Close, 4), in(op.Callc, op.None, 4, 0, 0), in(op.Div, 0, 0, 0), in(op.Mod, 0, 0, 0), in(op.Trap, 4),
	} {
		w := begun(t, begins("nnnnaaaa", num(1, -1), show(0), i), begins(""))
		w.do(1, 1, 1)
		if e, _ := w.End(); e != 2 {
			t.Errorf("%s: no trap", code.Show(i))
		}
		w.wantActs(code.Show(i), 0, "[{1 42 0 1 {-1 0 -1}}]")
	}
}

// P17.2: an Act tells where it was done: in which function of which goroutine's calls.
func TestActsTellWhere(t *testing.T) {
	w := begun(t, begins("n", in(op.Call, op.None, 1, 0), show(0)), fn(0, 0, 0, "n", poll(), show(0), in(op.Go, 2), end()), begins("n", in(op.Call, op.None, 1, 0)))
	w.times(1, 5)
	w.times(2, 5)
	w.do(2, 1)
	w.wantActs("where", 0, "[{1 42 1 1 {-1 0 -1}} {1 23 1 2 {-1 0 -1}} {2 42 1 1 {-1 0 -1}} {2 23 1 2 {-1 0 -1}} {2 22 2 1 {-1 0 -1}} {1 42 0 1 {-1 0 -1}}]")
}

// P17.2: the collector's steps are no Acts.
func TestNoActsOfCollect(t *testing.T) {
	w := begun(t, begins("a", in(op.New, 0, pair), poll()))
	w.do(1)
	for range 30 {
		w.Collect()
	}
	w.wantActs("Collect", 1, "[]")
}
