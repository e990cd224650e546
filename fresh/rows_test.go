package fresh_test

import (
	"math"
	"strings"
	"testing"

	"gantline/code"
	"gantline/fresh"
)

// place is where the instruction that is asked stands behind readyA, readyB.
const place = 6

// readyA is a function whose states ahead of its last instruction, i, are these; next is the one behind it.
const aheadA = "O O8 YO4 - - 2 - -"

func readyA(i code.Instr) code.Func {
	return function(8,
		code.Instr{Op: 25, A: 0},
		code.Instr{Op: 25, A: 1},
		code.Instr{Op: 25, A: 2},
		code.Instr{Op: 28, A: 1, B: 3, C: 6},
		code.Instr{Op: 28, A: 2, B: 2, C: 6},
		code.Instr{Op: 28, A: 5, B: 1, C: 6},
		i, code.Instr{Op: 22, A: -1})
}

// readyB likewise: two slots hold what was made last.
const aheadB = "O O8 Y Y4 - - - -"

func readyB(i code.Instr) code.Func {
	return function(8,
		code.Instr{Op: 25, A: 0},
		code.Instr{Op: 25, A: 1},
		code.Instr{Op: 25, A: 2},
		code.Instr{Op: 1, A: 3, B: 2},
		code.Instr{Op: 28, A: 1, B: 3, C: 6},
		code.Instr{Op: 28, A: 3, B: 2, C: 6},
		i, code.Instr{Op: 22, A: -1})
}

// yard has functions and cases for the rows that ask for them; the cases go on behind the place.
func yard() code.Module {
	return code.Module{
		Funcs: []code.Func{{}, {Params: 2, Caught: 1}, {Params: 1, Caught: 2}, {Params: 64, Caught: 64}, {Params: 65, Caught: 65}, {Params: -1, Caught: -1}, {Params: math.MaxInt, Caught: math.MaxInt}},
		Cases: []code.Case{{Kind: 0, Chan: 0, Val: 1, Target: place + 1}, {Kind: 1, Chan: 0, Val: 1, Target: place + 1}, {Kind: 2, Chan: 0, Val: 1, Target: place + 1}, {Kind: 3, Chan: 0, Val: 1, Target: place + 1}, {Kind: -1, Chan: 0, Val: 1, Target: place + 1}, {Kind: 0, Chan: 1, Val: -1, Target: place + 1}, {Kind: 1, Chan: 1, Val: 0, Target: place + 1}, {Kind: 0, Chan: 2, Val: 2, Target: place + 1}},
	}
}

func wantBehind(t *testing.T, ready func(code.Instr) code.Func, ahead string, i code.Instr, want string) {
	t.Helper()
	f := ready(i)
	sets := fresh.Sets(yard(), f)
	if got := tell(sets[place]); got != ahead {
		t.Fatalf("ahead of %s: %s, want %s", code.Show(i), got, ahead)
	}
	if got := tell(sets[place+1]); got != want {
		t.Errorf("behind %s %v: %s, want %s", code.Show(i), i, got, want)
	}
	wantPlain(t, code.Show(i), yard(), f)
}

// P11.1: an instruction of each row, by hand.
func TestRows(t *testing.T) {
	const nowhere = "- - - - - - - -"
	for _, c := range []struct {
		i    code.Instr
		want string
	}{
		{code.Instr{Op: 0, A: 1}, "O - YO4 - - 2 - -"},
		{code.Instr{Op: 0, A: 2, B: 1}, "O O8 - - - 2 - -"},
		{code.Instr{Op: 1, A: 3, B: 2}, "O O8 Y4 Y - 2 - -"},
		{code.Instr{Op: 1, A: 1, B: 2}, "O Y Y4 - - 2 - -"},
		{code.Instr{Op: 1, A: 2, B: 1}, "O 8 - - - 2 - -"},
		{code.Instr{Op: 2, A: 2}, "O O8 - - - 2 - -"},
		{code.Instr{Op: 17, A: 2, B: 1}, "O O8 - - - 2 - -"},
		{code.Instr{Op: 18, A: place + 1}, aheadA},
		{code.Instr{Op: 19, A: 2, B: place + 1}, aheadA},
		{code.Instr{Op: 20, A: 5, B: 1, C: 1}, "O 8 4 - - - - -"},
		{code.Instr{Op: 20, A: -1, B: 1, C: 1}, "O 8 4 - - 2 - -"},
		{code.Instr{Op: 20, A: 1, B: 1, C: 1}, "O - 4 - - 2 - -"},
		{code.Instr{Op: 21, A: 5, B: 0, C: 1, D: 1}, "- 8 O4 - - - - -"},
		{code.Instr{Op: 21, A: -1, B: 0, C: 2, D: 1}, "- O8 4 - - 2 - -"},
		{code.Instr{Op: 22, A: 2}, nowhere},
		{code.Instr{Op: 22, A: -1}, nowhere},
		{code.Instr{Op: 23, A: 1, B: 0}, "- 8 O4 - - 2 - -"},
		{code.Instr{Op: 24, A: 1, B: 2, C: 1}, "O 8 4 - - 2 - -"},
		{code.Instr{Op: 25, A: 5}, "O O8 O4 - - YO - -"},
		{code.Instr{Op: 26, A: 1, C: 0}, "O YO O4 - - 2 - -"},
		{code.Instr{Op: 27, A: 2, B: 1, C: 3}, "O O8 - - - 2 - -"},
		{code.Instr{Op: 28, A: 0, B: 5, C: 2}, "O20 O8 Y4 - - 2 - -"},
		{code.Instr{Op: 29, A: 1, B: 1, C: 0}, "- Oa YO4 - - 2 - -"},
		{code.Instr{Op: 30, A: 2, B: 1, C: 0}, "O O8 - - - 2 - -"},
		{code.Instr{Op: 31, A: 0, B: 1, C: 2}, "Offffffffffffffff O8 Y4 - - 2 - -"},
		{code.Instr{Op: 32, A: 2, B: 1, C: 3}, "O O8 YOffffffffffffffff - - 2 - -"},
		{code.Instr{Op: 33, A: 2, B: 1}, "O O8 - - - 2 - -"},
		{code.Instr{Op: 34, A: 2, B: 1}, "O O8 - - - 2 - -"},
		{code.Instr{Op: 35, A: 0, B: 2}, "O O8 Y4 - - 2 - -"},
		{code.Instr{Op: 36, A: 5, B: 1, C: 1}, "O 8 O4 - - Y - -"},
		{code.Instr{Op: 36, A: 2, B: 2, C: 1}, "O 8 Y - - 2 - -"},
		{code.Instr{Op: 37, A: 5, B: 1, C: 1}, "O O8 O4 - - YO - -"},
		{code.Instr{Op: 38, A: 1, B: 2}, "O O8 4 - - 2 - -"},
		{code.Instr{Op: 38, A: 2, B: 1}, "O 8 O4 - - 2 - -"},
		{code.Instr{Op: 39, A: 1, B: 0, C: 5}, "O - O4 - - - - -"},
		{code.Instr{Op: 39, A: -1, B: 0, C: 5}, "O O8 O4 - - - - -"},
		{code.Instr{Op: 39, A: 5, B: 1, C: -1}, "O O8 O4 - - - - -"},
		{code.Instr{Op: 39, A: -1, B: 2, C: -1}, "O O8 O4 - - 2 - -"},
		{code.Instr{Op: 40, A: 2}, aheadA},
		{code.Instr{Op: 41, A: 0, B: 1}, "O - O4 - - 2 - -"},
		{code.Instr{Op: 41, A: 1, B: 1}, "O 8 O4 - - 2 - -"},
		{code.Instr{Op: 42, A: 2}, aheadA},
		{code.Instr{Op: 43, A: 2}, "O O8 O4 - - 2 - -"},
		{code.Instr{Op: 44, A: 2}, nowhere},
	} {
		wantBehind(t, readyA, aheadA, c.i, c.want)
	}
	for op := 3; op <= 16; op++ {
		wantBehind(t, readyA, aheadA, code.Instr{Op: op, A: 2, B: 1, C: 0}, "O O8 - - - 2 - -")
		wantBehind(t, readyA, aheadA, code.Instr{Op: op, A: 5, B: 1, C: 2}, "O O8 YO4 - - - - -")
	}
}

// P11.1: an Op that there is not does nothing, and goes on.
func TestRowsOutside(t *testing.T) {
	for _, op := range []int{-1, -2, 45, 46, 256, 1<<32 + 25, 1<<32 + 43, math.MinInt, math.MinInt + 25, math.MaxInt} {
		wantBehind(t, readyA, aheadA, code.Instr{Op: op, A: 2, B: 1, C: 0, D: 1}, aheadA)
		wantBehind(t, readyB, aheadB, code.Instr{Op: op, A: 2, B: 1, C: 0, D: 1}, aheadB)
	}
}

// P11.1: behind a Point nothing is young that was so ahead of it; a Maker, which is one, makes its own slot young then.
func TestPoints(t *testing.T) {
	for op := -3; op < 60; op++ {
		i := code.Instr{Op: op, A: 7, B: 0, C: 6, D: 0}
		if op == 18 {
			i.A = place + 1
		}
		if op == 41 {
			i.A, i.B = 5, 1
		}
		f := readyB(i)
		sets := fresh.Sets(yard(), f)
		if op == 22 || op == 44 {
			continue
		}
		young := sets[place+1][2].Young && sets[place+1][3].Young
		if young == code.Point(op) {
			t.Errorf("behind %s: %s", code.Show(i), tell(sets[place+1]))
		}
		if sets[place+1][7].Young != code.Maker(op) {
			t.Errorf("behind %s: %s", code.Show(i), tell(sets[place+1]))
		}
		wantPlain(t, code.Show(i), yard(), f)
	}
	// A Maker of the slot that was young: another one is young in it.
	wantBehind(t, readyA, aheadA, code.Instr{Op: 25, A: 2}, "O O8 YO - - 2 - -")
	wantBehind(t, readyB, aheadB, code.Instr{Op: 25, A: 2}, "O O8 YO 4 - - - -")
	wantBehind(t, readyB, aheadB, code.Instr{Op: 36, A: 3, B: 0, C: 0}, "O O8 - Y - - - -")
	wantBehind(t, readyB, aheadB, code.Instr{Op: 37, A: 0, B: 0, C: 1}, "YO O8 - 4 - - - -")
}

// P11.1: each Maker, also of a slot whose fields were written.
func TestMakers(t *testing.T) {
	for op := range 45 {
		if !code.Maker(op) {
			continue
		}
		own := "YO"
		if code.Name(op) == "closure" {
			own = "Y"
		}
		wantBehind(t, readyA, aheadA, code.Instr{Op: op, A: 1}, "O "+own+" O4 - - 2 - -")
		wantBehind(t, readyA, aheadA, code.Instr{Op: op, A: 5}, "O O8 O4 - - "+own+" - -")
		wantBehind(t, readyA, aheadA, code.Instr{Op: op, A: 2}, "O O8 "+own+" - - 2 - -")
		// What an array's or a channel's length is told by is not caught.
		if own == "YO" {
			wantBehind(t, readyA, aheadA, code.Instr{Op: op, A: 7, B: 1, C: 1}, "O O8 O4 - - 2 - YO")
		}
	}
}

// P11.1: what a closure catches, of a function that is there and of one that is not.
func TestClosure(t *testing.T) {
	closure := func(a, b, c int) code.Instr { return code.Instr{Op: 36, A: a, B: b, C: c} }
	wantBehind(t, readyA, aheadA, closure(7, 0, 0), "O O8 O4 - - 2 - Y")
	wantBehind(t, readyA, aheadA, closure(7, 1, 0), "- O8 O4 - - 2 - Y")
	wantBehind(t, readyA, aheadA, closure(7, 1, 2), "O O8 4 - - 2 - Y")
	wantBehind(t, readyA, aheadA, closure(7, 2, 0), "- 8 O4 - - 2 - Y")
	wantBehind(t, readyA, aheadA, closure(7, 2, 1), "O 8 4 - - 2 - Y")
	wantBehind(t, readyA, aheadA, closure(7, 2, -1), "- O8 O4 - - 2 - Y")
	wantBehind(t, readyA, aheadA, closure(7, 3, 1), "O 8 4 - - 2 - Y")
	wantBehind(t, readyA, aheadA, closure(7, 3, -63), "- O8 O4 - - 2 - Y")
	wantBehind(t, readyA, aheadA, closure(-1, 3, 0), "- 8 4 - - 2 - -")
	// It catches its own slot.
	wantBehind(t, readyA, aheadA, closure(1, 2, 0), "- Y O4 - - 2 - -")
	wantBehind(t, readyA, aheadA, closure(1, 1, 1), "O Y O4 - - 2 - -")
	// More than 64, less than none, and no such function.
	for _, b := range []int{4, 5, 6, 7, 8, -1, -2, math.MinInt, math.MaxInt} {
		wantBehind(t, readyA, aheadA, closure(7, b, 0), "O O8 O4 - - 2 - Y")
	}
}

// P11.1: move, also onto itself, and of slots that are not there.
func TestMove(t *testing.T) {
	move := func(a, b int) code.Instr { return code.Instr{Op: 1, A: a, B: b} }
	wantBehind(t, readyA, aheadA, move(0, 1), "- 8 YO4 - - 2 - -")
	wantBehind(t, readyA, aheadA, move(5, 2), "O O8 Y4 - - Y - -")
	wantBehind(t, readyA, aheadA, move(5, 6), "O O8 YO4 - - - - -")
	wantBehind(t, readyA, aheadA, move(1, 5), "O - YO4 - - 2 - -")
	wantBehind(t, readyB, aheadB, move(0, 3), "Y O8 Y Y4 - - - -")
	wantBehind(t, readyB, aheadB, move(3, 2), "O O8 Y Y - - - -")
	wantBehind(t, readyB, aheadB, move(3, 1), "O 8 Y - - - - -")
	for _, c := range []struct{ slot, want string }{{"0", "- O8 YO4 - - 2 - -"}, {"1", "O - YO4 - - 2 - -"}, {"2", "O O8 Y - - 2 - -"}, {"4", aheadA}, {"5", "O O8 YO4 - - - - -"}} {
		slot := int(c.slot[0] - '0')
		wantBehind(t, readyA, aheadA, move(slot, slot), c.want)
	}
	wantBehind(t, readyB, aheadB, move(3, 3), "O O8 Y Y - - - -")
	for _, slot := range []int{-1, 64, 65, math.MinInt, math.MaxInt, 1<<32 + 2} {
		wantBehind(t, readyA, aheadA, move(slot, 2), "O O8 Y4 - - 2 - -")
		wantBehind(t, readyA, aheadA, move(2, slot), "O O8 - - - 2 - -")
		wantBehind(t, readyA, aheadA, move(slot, slot), aheadA)
	}
}

// P11.1: set and setn of each bit, and of none.
func TestSet(t *testing.T) {
	for _, op := range []int{28, 29} {
		set := func(a, b, c int) code.Instr { return code.Instr{Op: op, A: a, B: b, C: c} }
		for _, b := range []int{-1, -2, -64, 64, 65, 128, math.MinInt, math.MaxInt, 1 << 32} {
			wantBehind(t, readyA, aheadA, set(0, b, 1), "O 8 YO4 - - 2 - -")
			wantBehind(t, readyA, aheadA, set(2, b, 2), "O O8 Y4 - - 2 - -")
		}
		for b := range 64 {
			written := fresh.State{Own: true, Written: 1 << b}
			wantBehind(t, readyA, aheadA, set(0, b, 1), tell([]fresh.State{written})+" 8 YO4 - - 2 - -")
		}
		wantBehind(t, readyA, aheadA, set(0, 0, 7), "O1 O8 YO4 - - 2 - -")
		wantBehind(t, readyA, aheadA, set(0, 63, 7), "O8000000000000000 O8 YO4 - - 2 - -")
		wantBehind(t, readyA, aheadA, set(1, 3, 7), aheadA)
		wantBehind(t, readyA, aheadA, set(1, 0, 7), "O O9 YO4 - - 2 - -")
		wantBehind(t, readyA, aheadA, set(3, 1, 7), "O O8 YO4 2 - 2 - -")
		// The same slot on both sides.
		wantBehind(t, readyA, aheadA, set(2, 0, 2), "O O8 Y5 - - 2 - -")
		wantBehind(t, readyA, aheadA, set(0, 1, 0), "2 O8 YO4 - - 2 - -")
		for _, slot := range []int{-1, 64, math.MinInt, math.MaxInt} {
			wantBehind(t, readyA, aheadA, set(slot, 0, 2), "O O8 Y4 - - 2 - -")
			wantBehind(t, readyA, aheadA, set(2, 0, slot), "O O8 YO5 - - 2 - -")
		}
	}
}

// P11.1: put and putn write whatever field it may be.
func TestPut(t *testing.T) {
	const full = "ffffffffffffffff"
	for _, op := range []int{31, 32} {
		put := func(a, b, c int) code.Instr { return code.Instr{Op: op, A: a, B: b, C: c} }
		for _, b := range []int{0, 1, 2, 63, 64, -1, math.MinInt, math.MaxInt} {
			wantBehind(t, readyA, aheadA, put(0, b, 1), "O"+full+" 8 YO4 - - 2 - -")
			wantBehind(t, readyA, aheadA, put(2, b, 2), "O O8 Y"+full+" - - 2 - -")
			wantBehind(t, readyA, aheadA, put(6, b, 7), "O O8 YO4 - - 2 "+full+" -")
		}
		for _, slot := range []int{-1, 64, math.MinInt, math.MaxInt} {
			wantBehind(t, readyA, aheadA, put(slot, 0, 2), "O O8 Y4 - - 2 - -")
			wantBehind(t, readyA, aheadA, put(2, 0, slot), "O O8 YO"+full+" - - 2 - -")
		}
	}
}

// P11.1: what is handed to another function or goroutine.
func TestHandedOut(t *testing.T) {
	const point = "O O8 O4 - - 2 - -"
	for b, want := range map[int]string{0: point, 1: "- 8 O4 - - 2 - -", 2: "- O8 O4 - - 2 - -", 3: "- 8 4 - - 2 - -", 4: point, 5: point, 6: point, 7: point, -1: point, math.MinInt: point, math.MaxInt: point} {
		wantBehind(t, readyA, aheadA, code.Instr{Op: 20, A: -1, B: b, C: 0}, want)
		wantBehind(t, readyA, aheadA, code.Instr{Op: 20, A: 5, B: b, C: 0}, strings.Replace(want, "2", "-", 1))
		wantBehind(t, readyA, aheadA, code.Instr{Op: 23, A: b, B: 0}, want)
	}
	for d, want := range map[int]string{0: "O O8 4 - - 2 - -", 1: "- O8 4 - - 2 - -", 2: "- 8 4 - - 2 - -", 64: "- 8 4 - - 2 - -", 65: "O O8 4 - - 2 - -", -1: "O O8 4 - - 2 - -", math.MinInt: "O O8 4 - - 2 - -", math.MaxInt: "O O8 4 - - 2 - -"} {
		wantBehind(t, readyA, aheadA, code.Instr{Op: 21, A: -1, B: 2, C: 0, D: d}, want)
		wantBehind(t, readyA, aheadA, code.Instr{Op: 24, A: 2, B: 0, C: d}, want)
	}
	// Runs that begin or end where no slot is.
	wantBehind(t, readyA, aheadA, code.Instr{Op: 20, A: -1, B: 1, C: -1}, "- O8 O4 - - 2 - -")
	wantBehind(t, readyA, aheadA, code.Instr{Op: 23, A: 3, B: -62}, "- 8 O4 - - 2 - -")
	wantBehind(t, readyA, aheadA, code.Instr{Op: 21, A: -1, B: 64, C: 63, D: 2}, point)
	wantBehind(t, readyA, aheadA, code.Instr{Op: 24, A: -1, B: math.MaxInt, C: 2}, point)
	// The answer goes to a slot that was handed out, or to the closure's.
	wantBehind(t, readyA, aheadA, code.Instr{Op: 20, A: 0, B: 1, C: 0}, "- 8 O4 - - 2 - -")
	wantBehind(t, readyA, aheadA, code.Instr{Op: 21, A: 1, B: 1, C: 0, D: 1}, "- - O4 - - 2 - -")
	for _, slot := range []int{-1, 64, math.MinInt, math.MaxInt} {
		wantBehind(t, readyA, aheadA, code.Instr{Op: 35, A: 0, B: slot}, aheadA)
		wantBehind(t, readyA, aheadA, code.Instr{Op: 38, A: 0, B: slot}, point)
		wantBehind(t, readyA, aheadA, code.Instr{Op: 38, A: slot, B: 0}, "- O8 O4 - - 2 - -")
	}
	wantBehind(t, readyA, aheadA, code.Instr{Op: 38, A: 1, B: 1}, "O 8 O4 - - 2 - -")
	wantBehind(t, readyA, aheadA, code.Instr{Op: 35, A: 2, B: 0}, "- O8 YO4 - - 2 - -")
}

// P11.1: what a select sends is not own, and what it receives is none's, on all its ways.
func TestSelect(t *testing.T) {
	sel := func(a, b int) code.Instr { return code.Instr{Op: 41, A: a, B: b} }
	wantBehind(t, readyA, aheadA, sel(0, 1), "O - O4 - - 2 - -")
	wantBehind(t, readyA, aheadA, sel(1, 1), "O 8 O4 - - 2 - -")
	wantBehind(t, readyA, aheadA, sel(0, 2), "O - O4 - - 2 - -")
	for a := 2; a < 6; a++ {
		wantBehind(t, readyA, aheadA, sel(a, 1), "O O8 O4 - - 2 - -")
	}
	wantBehind(t, readyA, aheadA, sel(6, 1), "- O8 O4 - - 2 - -")
	wantBehind(t, readyA, aheadA, sel(7, 1), "O O8 - - - 2 - -")
	wantBehind(t, readyA, aheadA, sel(6, 2), "- O8 - - - 2 - -")
	wantBehind(t, readyA, aheadA, sel(0, 8), "- - - - - 2 - -")
	// Cases that are not all there, and none at all: it goes on nowhere.
	for _, i := range []code.Instr{sel(0, 0), sel(8, 0), sel(0, 9), sel(7, 2), sel(8, 1), sel(-1, 1), sel(-1, 9), sel(0, -1), sel(math.MaxInt, 1), sel(1, math.MaxInt), sel(math.MinInt, math.MaxInt), sel(math.MinInt, math.MinInt), sel(math.MaxInt, math.MaxInt)} {
		wantBehind(t, readyA, aheadA, i, "- - - - - - - -")
	}
}

// P11.1: numbers of all sorts as operands of all rows.
func TestRowsEdges(t *testing.T) {
	edges := []int{0, 1, 2, 3, -1, 5, 7, 8, 62, 63, 64, 65, math.MaxInt, math.MinInt}
	for op := -1; op < 46; op++ {
		for j, a := range edges {
			for k, b := range edges {
				i := code.Instr{Op: op, A: a, B: b, C: edges[(3*j+5*k+op+1)%len(edges)], D: edges[(j+k)%len(edges)]}
				if (j+k)%2 == 0 {
					wantPlain(t, "edges", yard(), readyA(i))
				} else {
					wantPlain(t, "edges", yard(), readyB(i))
				}
			}
		}
	}
}
