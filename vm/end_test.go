package vm_test

import (
	"slices"
	"testing"

	"gantline/api"
	"gantline/code"
	"gantline/op"
)

// P17.2: EndDeadlock at once, at New too.
func TestDeadlockAtNew(t *testing.T) {
	w := begunBy(t, []code.Case{gets(0, op.None, 1), puts(0, 1, 1)}, begins("an", choose(0, 2)))
	w.want("a select of no channel", "[] 3 0")
	w.wantEnabled("a select of no channel")
	w.wantRefused("a select of no channel", 1, 0)
	w.wantSame("a select of no channel", func() {
		if w.Collect() {
			t.Errorf("Collect is done")
		}
	})
	if !slices.Equal(w.Stacks(), []int{1}) || len(w.Acts()) != 0 {
		t.Errorf("Stacks: %v, Acts: %v", w.Stacks(), w.Acts())
	}
	begunBy(t, []code.Case{gets(0, op.None, 1), other(1)}, begins("an", choose(0, 2), show(1))).wantRun("with a default", "[0] 1 0")
	begun(t, begins("an", in(op.Recv, 1, 0, op.None))).want("a recv of no channel may fall", "[] 0 0")
}

// P17.2: behind an instruction of the one that waits then, or of another.
func TestDeadlockBehindInstruction(t *testing.T) {
	for _, i := range []code.Instr{in(op.Send, 0, 1), in(op.Recv, 1, 0, op.None), choose(0, 2)} {
		w := begunBy(t, []code.Case{gets(0, op.None, 3), puts(0, 1, 3)}, begins("an", in(op.Chan, 0, pipe, 1), show(1), i))
		w.do(1)
		w.want("a print is left", "[] 0 0")
		w.do(1)
		w.want("it waits", "[0] 3 0")
		w.wantActs("the last one is told", 1, "[{1 42 0 1 {-1 0 -1}}]")
	}
	// Both receive: the second one to come there ends all.
	w := begun(t, begins("an", in(op.Chan, 0, pipe, 1), in(op.Go, 1, 0), poll(), in(op.Recv, 1, 0, op.None)), fn(1, 0, 0, "an", poll(), in(op.Recv, 1, 0, op.None), end()))
	w.do(1, 1, 1)
	w.want("one waits", "[] 0 0")
	w.wantEnabled("one waits", 2)
	w.do(2)
	w.want("both wait", "[] 3 0")
	if got := w.Stacks(); !slices.Equal(got, []int{1, 2}) {
		t.Errorf("Stacks: %v", got)
	}
}

// P17.2: behind a pair, if both wait again.
func TestDeadlockBehindPair(t *testing.T) {
	w := begun(t, begins("an", in(op.Chan, 0, pipe, 1), in(op.Go, 1, 0), in(op.Send, 0, 1), in(op.Recv, 1, 0, op.None)), fn(1, 0, 0, "an", in(op.Recv, 1, 0, op.None), in(op.Recv, 1, 0, op.None), end()))
	w.do(1, 1, 2)
	w.want("both wait", "[] 3 0")
	w.wantActs("the pair", 2, "[{2 39 1 0 {-1 1 -1}}]")
}

// P17.2: behind a goroutine's last return; goroutine 1's is an exit, whoever waits.
func TestDeadlockBehindReturn(t *testing.T) {
	funcs := []code.Func{begins("an", in(op.Chan, 0, pipe, 1), in(op.Go, 1, 0), in(op.Recv, 1, 0, op.None)), fn(1, 0, 0, "a", end())}
	w := begun(t, funcs...)
	w.do(1, 1)
	w.want("the other one is there", "[] 0 0")
	w.do(2)
	w.want("it is no more", "[] 3 0")
	w.wantActs("its return", 2, "[{2 22 1 0 {-1 0 -1}}]")
	if got := w.Stacks(); !slices.Equal(got, []int{1}) {
		t.Errorf("Stacks: %v", got)
	}
	w = begun(t, begins("an", in(op.Chan, 0, pipe, 1), in(op.Go, 1, 0)), fn(1, 0, 0, "an", in(op.Recv, 1, 0, op.None), end()))
	w.wantRun("others wait at the exit", "[] 1 0")
}

// P17.2: nobody is stuck whom another can still free.
func TestNoDeadlock(t *testing.T) {
	w := begun(t, begins("an", in(op.Chan, 0, pipe, 1), in(op.Go, 1, 0), in(op.Recv, 1, 0, 1), show(1)), fn(1, 0, 0, "a", poll(), poll(), in(op.Close, 0), end()))
	w.do(1, 1)
	for range 2 {
		w.wantEnabled("the other one will close it", 2)
		w.do(2)
	}
	w.do(2)
	w.wantEnabled("it is closed", 1, 2)
	w.wantRun("on", "[0] 1 0")
}

// P17.1: End tells nothing while it goes on.
func TestEndNone(t *testing.T) {
	w := begun(t, begins("n", show(0), show(0)))
	for range 2 {
		if e, trap := w.End(); e != api.EndNone || trap != api.TrapNone {
			t.Errorf("End: %d, %d", e, trap)
		}
		w.do(1)
	}
}
