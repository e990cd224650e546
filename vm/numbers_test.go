package vm_test

import (
	"fmt"
	"testing"

	"gantline/api"
	"gantline/code"
	"gantline/op"
)

// wantNumber wants what an instruction of two numbers tells, or its trap.
func wantNumber(t *testing.T, o int, b, c int64, want int64, trap api.Trap) {
	t.Helper()
	w := begun(t, begins("nnn", num(1, b), num(2, c), in(o, 0, 1, 2), show(0), show(1), show(2)))
	told := fmt.Sprintf("[%d %d %d] 1 0", want, b, c)
	if trap != api.TrapNone {
		told = fmt.Sprintf("[] 2 %d", trap)
	}
	w.wantRun(fmt.Sprintf("%s of %d and %d", code.Name(o), b, c), told)
}

// P17.1: what is written out by hand.
func TestNumbers(t *testing.T) {
	for _, x := range []struct {
		o          int
		b, c, want int64
		trap       api.Trap
	}{
		{op.Add, 3, 4, 7, 0}, {op.Add, greatest, 1, least, 0}, {op.Add, least, -1, greatest, 0}, {op.Add, least, least, 0, 0},
		{op.Sub, 3, 4, -1, 0}, {op.Sub, least, 1, greatest, 0}, {op.Sub, 0, least, least, 0},
		{op.Mul, -7, 6, -42, 0}, {op.Mul, greatest, 2, -2, 0}, {op.Mul, least, -1, least, 0}, {op.Mul, 1 << 61, 2, least, 0},
		{op.Div, -7, 2, -3, 0}, {op.Div, 7, -2, -3, 0}, {op.Div, least, -1, least, 0}, {op.Div, least, 1, least, 0}, {op.Div, 0, 5, 0, 0},
		{op.Mod, -7, 2, -1, 0}, {op.Mod, 7, -2, 1, 0}, {op.Mod, least, -1, 0, 0},
		{op.Div, 1, 0, 0, api.TrapZero}, {op.Mod, 1, 0, 0, api.TrapZero}, {op.Div, 0, 0, 0, api.TrapZero}, {op.Mod, least, 0, 0, api.TrapZero},
		{op.And, -1, 12, 12, 0}, {op.And, least, greatest, 0, 0}, {op.And, least, -1, least, 0},
		{op.Or, 5, 10, 15, 0}, {op.Or, least, greatest, -1, 0}, {op.Or, least, 1, least + 1, 0},
		{op.Xor, 5, 6, 3, 0}, {op.Xor, least, -1, greatest, 0}, {op.Xor, greatest, -1, least, 0},
		{op.Shl, 1, 61, 1 << 61, 0}, {op.Shl, 1, 62, least, 0}, {op.Shl, 1, 63, 0, 0}, {op.Shl, 1, 64, 0, 0}, {op.Shl, 1, -1, 0, 0}, {op.Shl, -1, 62, least, 0}, {op.Shl, 5, least, 0, 0}, {op.Shl, 5, greatest, 0, 0},
		{op.Shr, -8, 1, -4, 0}, {op.Shr, least, 62, -1, 0}, {op.Shr, greatest, 62, 0, 0}, {op.Shr, greatest, 61, 1, 0}, {op.Shr, -8, 63, -1, 0}, {op.Shr, 8, 63, 0, 0}, {op.Shr, -8, -1, -1, 0}, {op.Shr, 8, -1, 0, 0}, {op.Shr, -5, greatest, -1, 0}, {op.Shr, 5, least, 0, 0},
		{op.Lt, least, greatest, 1, 0}, {op.Lt, greatest, least, 0, 0}, {op.Lt, 5, 5, 0, 0}, {op.Lt, -1, 0, 1, 0},
		{op.Le, least, greatest, 1, 0}, {op.Le, greatest, least, 0, 0}, {op.Le, 5, 5, 1, 0}, {op.Le, 0, -1, 0, 0},
		{op.Eq, 5, 5, 1, 0}, {op.Eq, 5, -5, 0, 0}, {op.Eq, least, least, 1, 0}, {op.Eq, least, greatest, 0, 0},
	} {
		wantNumber(t, x.o, x.b, x.c, x.want, x.trap)
	}
}

// P17.1: all of them, of all pairs of numbers at the edges, against a reckoning with numbers of any size.
func TestNumbersAtEdges(t *testing.T) {
	edges := []int64{least, least + 1, -1 << 61, -1 << 32, -70, -64, -63, -62, -2, -1, 0, 1, 2, 3, 31, 32, 61, 62, 63, 64, 65, 1 << 32, 12345678901, 1 << 61, greatest - 1, greatest}
	for o := op.Add; o <= op.Eq; o++ {
		for _, b := range edges {
			for _, c := range edges {
				want, trap := plainNumber(o, b, c)
				wantNumber(t, o, b, c, want, trap)
			}
		}
	}
}

// P17.1: an instruction whose slots are the same one.
func TestNumbersInOneSlot(t *testing.T) {
	for _, x := range []struct {
		o    int
		want string
	}{
		{op.Add, "[10] 1 0"}, {op.Sub, "[0] 1 0"}, {op.Mul, "[25] 1 0"}, {op.Div, "[1] 1 0"}, {op.Mod, "[0] 1 0"}, {op.And, "[5] 1 0"},
		{op.Or, "[5] 1 0"}, {op.Xor, "[0] 1 0"}, {op.Shl, "[160] 1 0"}, {op.Shr, "[0] 1 0"}, {op.Lt, "[0] 1 0"}, {op.Le, "[1] 1 0"}, {op.Eq, "[1] 1 0"},
	} {
		begun(t, begins("n", num(0, 5), in(x.o, 0, 0, 0), show(0))).wantRun(code.Name(x.o), x.want)
	}
}

// P17.1: const, move, nil, not, same.
func TestSlots(t *testing.T) {
	for _, x := range []struct {
		where string
		list  []code.Instr
		want  string
	}{
		{"const", []code.Instr{num(0, least), show(0), num(0, greatest), show(0), num(1, 0), show(1)}, fmt.Sprintf("[%d %d 0] 1 0", least, greatest)},
		{"move", []code.Instr{num(0, 7), in(op.Move, 1, 0), num(0, 8), show(0), show(1), in(op.Move, 0, 0), show(0)}, "[8 7 8] 1 0"},
		{"move of an address", []code.Instr{in(op.New, 2, pair), in(op.Move, 3, 2), in(op.Same, 0, 2, 3), show(0)}, "[1] 1 0"},
		{"nil", []code.Instr{in(op.New, 2, pair), in(op.Nil, 2), in(op.Same, 0, 2, 3), show(0), in(op.Get, 0, 2, 0)}, "[1] 2 1"},
		{"not", []code.Instr{in(op.Not, 0, 1), show(0), in(op.Not, 0, 0), show(0), num(1, -5), in(op.Not, 0, 1), show(0), num(1, least), in(op.Not, 1, 1), show(1)}, "[1 0 0 0] 1 0"},
		{"same", []code.Instr{in(op.Same, 0, 2, 3), show(0), in(op.New, 2, pair), in(op.Same, 0, 2, 3), show(0), in(op.New, 3, pair), in(op.Same, 0, 2, 3), show(0), in(op.Same, 0, 3, 3), show(0)}, "[1 0 0 1] 1 0"},
	} {
		begun(t, begins("nnaa", x.list...)).wantRun(x.where, x.want)
	}
}

// P17.1: jump and if, ahead and back, to the next one; poll does nothing.
func TestWays(t *testing.T) {
	for _, x := range []struct {
		where string
		list  []code.Instr
		want  string
	}{
		{"jump ahead", []code.Instr{jump(2), show(0), poll(), num(0, 1), show(0)}, "[1] 1 0"},
		{"jump to the next", []code.Instr{jump(1), show(0)}, "[0] 1 0"},
		{"if not", []code.Instr{in(op.If, 0, 2), show(0), show(0)}, "[0 0] 1 0"},
		{"if so", []code.Instr{num(0, 3), in(op.If, 0, 3), show(0), show(0)}, "[3] 1 0"},
		{"if below 0", []code.Instr{num(0, least), in(op.If, 0, 3), show(0), poll()}, "[] 1 0"},
		{"if back", []code.Instr{num(0, 4), num(1, 1), poll(), show(0), in(op.Sub, 0, 0, 1), in(op.If, 0, 2)}, "[4 3 2 1] 1 0"},
		{"polls", []code.Instr{poll(), poll(), show(0), poll()}, "[0] 1 0"},
	} {
		w := begun(t, begins("nn", x.list...))
		w.wantRun(x.where, x.want)
	}
}

// P17.1: a goroutine's slots are its own, and 0 at first.
func TestSlotsAreOwn(t *testing.T) {
	w := begun(t, begins("n", num(0, 5), in(op.Go, 1), show(0)), begins("n", show(0), num(0, 6), show(0)))
	w.do(1, 1, 2, 2, 1, 2)
	w.want("both", "[0 5 6] 0 0")
}

// P17.1: the example of the chapter, and of print: as many as there may be, no more.
func TestPrint(t *testing.T) {
	w := begun(t, begins("n", num(0, 5), show(0)))
	w.do(1, 1, 1)
	w.want("the example", "[5] 1 0")

	w = begun(t, begins("nn", num(1, 1), poll(), show(0), in(op.Add, 0, 0, 1), jump(1)))
	w.Do(1, 0)
	for n := range api.MaxOut + 3 {
		for range 4 {
			if !w.Do(1, 0) {
				t.Fatalf("it ends behind %d", n)
			}
		}
		if n < 5 || n > api.MaxOut-3 {
			if got := w.Out(); len(got) != min(n+1, api.MaxOut) || got[len(got)-1] != int64(len(got)-1) || got[0] != 0 {
				t.Errorf("behind %d prints: %d are out", n+1, len(got))
			}
			if got := w.Acts(); len(got) != n+1 || got[n].Op != op.Print {
				t.Errorf("behind %d prints: %d Acts", n+1, len(got))
			}
		}
	}
	w.wantEnabled("it goes on", 1)
}

// P17.1: trap A: that trap.
func TestTrap(t *testing.T) {
	for trap := 1; trap <= 6; trap++ {
		w := begun(t, begins("n", show(0), in(op.Trap, trap), show(0)))
		w.wantRun("a trap", fmt.Sprintf("[0] 2 %d", trap))
		w.wantActs("a trap", 0, "[{1 42 0 0 {-1 0 -1}}]")
	}
}
