package vm_test

import (
	"fmt"
	"math"
	"slices"
	"testing"

	"gantline/api"
	"gantline/code"
	"gantline/op"
)

// P17.1: call: arguments from a slot on, the answer, an answer that nobody asks for, no answer.
func TestCall(t *testing.T) {
	double := fn(2, 0, 1, "nnn", in(op.Add, 2, 0, 1), num(0, 99), in(op.Return, 2))
	self := fn(1, 0, 2, "a", in(op.Return, 0))
	nothing := fn(1, 0, 0, "n", show(0), end())
	for _, x := range []struct {
		where string
		list  []code.Instr
		want  string
	}{
		{"a number", []code.Instr{num(1, 5), num(2, 7), in(op.Call, 0, 1, 1), show(0), show(1), show(2)}, "[12 5 7] 1 0"},
		{"to an argument's slot", []code.Instr{num(0, 5), num(1, 7), in(op.Call, 0, 1, 0), show(0), show(1)}, "[12 7] 1 0"},
		{"nobody asks", []code.Instr{num(1, 5), in(op.Call, op.None, 1, 1), show(0), show(1), show(2)}, "[0 5 0] 1 0"},
		{"an address", []code.Instr{in(op.New, 3, pair), in(op.Call, 4, 2, 3), in(op.Same, 0, 3, 4), show(0)}, "[1] 1 0"},
		{"nothing", []code.Instr{num(2, 6), in(op.Call, op.None, 3, 2), show(0)}, "[6 0] 1 0"},
		{"of nothing", []code.Instr{num(0, 6), in(op.Call, 0, 4, -99), show(0), in(op.Call, 0, 4, math.MaxInt), show(0)}, "[3 3] 1 0"},
	} {
		w := begun(t, begins("nnnaa", x.list...), double, self, nothing, fn(0, 0, 1, "n", num(0, 3), in(op.Return, 0)))
		w.wantRun(x.where, x.want)
		w.wantActs(x.where, len(w.Acts())-1, fmt.Sprintf("[{1 22 0 %d {-1 0 -1}}]", len(x.list)))
	}
}

// P17.1: the caller stands at its call till the return: what its map names there is held, though it was not named behind it.
func TestCallerStands(t *testing.T) {
	w := begun(t,
		begins("nnaaa", in(op.New, 2, pair), in(op.New, 3, pair), in(op.New, 4, pair), in(op.Call, op.None, 1, 2), in(op.Get, 0, 4, 0)),
		fn(1, 0, 0, "aa", poll(), in(op.New, 1, pair), in(op.Get, 0, 1, 0), end()))
	w.Do(1, 0)
	w.Do(1, 0)
	w.Do(1, 0)
	first, third := w.Stack(1)[0], w.Stack(1)[1]
	w.do(1)
	if got := w.Stack(1); !slices.Equal(got, []int64{first, third}) {
		t.Errorf("in the call: %v, want %v", got, []int64{first, third})
	}
	w.do(1, 1)
	if got := w.Stack(1); len(got) != 3 || !slices.Equal(got[:2], []int64{first, third}) {
		t.Errorf("with one more: %v, want %v and one", got, []int64{first, third})
	}
}

// nest calls itself till its number is so great, and then prints; by a closure, if it is so.
func nest(byClosure bool) code.Func {
	call, which := in(op.Call, op.None, 1, 0), ""
	if byClosure {
		call, which = in(op.Callc, op.None, 3, 0, 1), "a"
	}
	list := []code.Instr{num(1, 1), in(op.Sub, 0, 0, 1), in(op.If, 0, 5), show(0), end(), in(op.Closure, 3, 1, 0), call, end()}
	if !byClosure {
		list[5] = poll()
	}
	return fn(1, 0, 0, "nnn"+which, list...)
}

// P17.1: call, callc up to MaxCalls, and one past it.
func TestCallsToLimit(t *testing.T) {
	for _, byClosure := range []bool{false, true} {
		for _, depth := range []int64{1, 2, 9} {
			w := begun(t, begins("n", num(0, depth), in(op.Call, op.None, 1, 0), show(0)), nest(byClosure))
			w.wantRun("calls", fmt.Sprintf("[0 %d] 1 0", depth))
		}
		for _, below := range []int64{0, 1} {
			// 255 calls upon Main's: as many as 127, 127 and 1, or 2.
			list := []code.Instr{num(0, 127), in(op.Add, 0, 0, 0), num(1, below), in(op.Add, 0, 0, 1), in(op.Call, op.None, 1, 0), show(0)}
			w := begun(t, begins("nn", list...), nest(byClosure))
			want := []string{"[0 254] 1 0", "[0 255] 1 0"}[below]
			w.wantRun("calls to the limit", want)
			list[2] = num(1, 2)
			w = begun(t, begins("nn", list...), nest(byClosure))
			w.wantRun("one past it", "[] 2 6")
			w.wantActs("one past it", 0, "[]")
			if got := w.Stacks(); !slices.Equal(got, []int{1}) {
				t.Errorf("one past it: Stacks: %v", got)
			}
		}
	}
}

// P17.1: each goroutine has as many calls of its own.
func TestCallsOfEach(t *testing.T) {
	deep := fn(0, 0, 0, "n", num(0, 127), in(op.Add, 0, 0, 0), in(op.Call, op.None, 1, 0), end())
	w := begun(t, begins("", in(op.Go, 2), in(op.Go, 2), poll(), jump(2)), nest(false), deep)
	w.do(1, 1)
	for range 2000 {
		for id := 2; id <= 3; id++ {
			if w.Ways(id) > 0 {
				w.do(id)
			}
		}
	}
	w.want("two goroutines", "[0 0] 0 0")
}

// P17.1: go, goc up to MaxGos, and one past it; one that is no more makes room for another.
func TestGosToLimit(t *testing.T) {
	loop := func(begin code.Instr) world {
		return begun(t, begins("na", in(op.Closure, 1, 1, 0), poll(), begin, show(0), jump(1)), begins("", poll()))
	}
	for _, begin := range []code.Instr{in(op.Go, 1, -5), in(op.Goc, 1, 0, 0), in(op.Goc, 1, math.MinInt, 0)} {
		w := loop(begin)
		w.do(1)
		for n := 2; n <= api.MaxGos; n++ {
			w.do(1, 1, 1, 1)
			if got := w.Stacks(); len(got) != n || got[n-1] != n {
				t.Fatalf("Stacks: %v", got)
			}
		}
		w.do(7, 7, 1, 1)
		if got := w.Stacks(); len(got) != api.MaxGos || got[api.MaxGos-1] != api.MaxGos+1 || slices.Contains(got, 7) {
			t.Fatalf("one went, one came: %v", got)
		}
		w.do(1, 1, 1)
		acts := len(w.Acts())
		w.do(1)
		if e, trap := w.End(); e != api.EndTrap || trap != api.TrapDeep || len(w.Stacks()) != api.MaxGos || len(w.Acts()) != acts {
			t.Errorf("one too many: %d, %d, %d goroutines", e, trap, len(w.Stacks()))
		}
	}
}

// P17.1: go of a function: its arguments, its number; it stands at its first instruction.
func TestGo(t *testing.T) {
	w := begun(t,
		begins("nna", num(0, 5), num(1, 6), in(op.New, 2, pair), in(op.Set, 2, 0, 0), in(op.Go, 1, 1), num(1, 9), show(1)),
		fn(2, 0, 0, "nan", show(0), in(op.Get, 0, 1, 0), show(0), show(2), end()))
	w.times(1, 5)
	w.wantEnabled("two", 1, 2)
	w.do(1, 1, 2, 2, 2, 2)
	w.want("both", "[9 6 5 0] 0 0")
	w.do(2)
	w.wantEnabled("one is no more", 1)
	w.wantActs("its last return", 8, "[{2 22 1 4 {-1 0 -1}}]")
}

// takers are functions that closures are made of: Main makes one of each, by its number.
func takers() []code.Func {
	return []code.Func{
		1: fn(0, 0, 0, "", end()),
		2: fn(1, 0, 0, "n", show(0), end()),
		3: fn(1, 0, 0, "a", end()),
		4: fn(2, 0, 0, "na", show(0), end()),
		5: fn(0, 0, 1, "n", num(0, 8), in(op.Return, 0)),
		6: fn(0, 0, 2, "a", in(op.New, 0, pair), in(op.Return, 0)),
		7: fn(1, 1, 1, "nn", in(op.Add, 0, 0, 1), in(op.Return, 0)),
		8: fn(0, 2, 0, "na", show(0), end()),
		9: fn(2, 0, 0, "an", show(1), end()),
	}
}

// P17.1: callc, goc of a closure whose function has other Params, other kinds, another Result.
func TestClosureFits(t *testing.T) {
	const nn, aa, cl = 0, 2, 4 // Main's slots: two numbers, two addresses, one that holds the closure
	for _, x := range []struct {
		of, a, first, count int
		callc, goc          bool // is it called?
	}{
		{1, -1, 0, 0, true, true}, {1, -1, 99, 0, true, true}, {1, nn, 0, 0, false, true}, {1, aa, 0, 0, false, true}, {1, -1, 0, 1, false, false}, {1, -1, 2, 1, false, false},
		{2, -1, 0, 1, true, true}, {2, -1, 1, 1, true, true}, {2, -1, 2, 1, false, false}, {2, -1, 0, 0, false, false}, {2, -1, 0, 2, false, false},
		{3, -1, 2, 1, true, true}, {3, -1, 4, 1, true, true}, {3, -1, 1, 1, false, false},
		{4, -1, 1, 2, true, true}, {4, -1, 0, 2, false, false}, {4, -1, 2, 2, false, false}, {4, -1, 1, 1, false, false}, {4, -1, 1, 3, false, false},
		{5, nn, 0, 0, true, false}, {5, -1, 0, 0, true, false}, {5, aa, 0, 0, false, false},
		{6, aa, 0, 0, true, false}, {6, -1, 0, 0, true, false}, {6, nn, 0, 0, false, false}, {6, cl, 0, 0, true, false},
		{7, nn, 0, 1, true, false}, {7, nn, 0, 0, false, false}, {7, nn, 0, 2, false, false}, {7, -1, 1, 1, true, false},
		{8, -1, 0, 0, true, true}, {8, -1, 1, 2, false, false}, {8, nn, 0, 0, false, true},
		{9, -1, 1, 2, false, false}, {9, -1, 0, 2, false, false},
	} {
		for _, goc := range []bool{false, true} {
			call, fits := in(op.Callc, x.a, cl, x.first, x.count), x.callc
			if goc {
				call, fits = in(op.Goc, cl, x.first, x.count), x.goc
			}
			funcs := takers()
			funcs[0] = begins("nnaaa", in(op.New, 3, pair), in(op.Closure, cl, x.of, 1), call)
			w := begun(t, funcs...)
			w.do(1, 1, 1)
			e, trap := w.End()
			if got := e == api.EndNone; got != fits || !fits && (e != api.EndTrap || trap != api.TrapNil) {
				t.Errorf("%v of a closure of %d: End: %d, %d", call, x.of, e, trap)
			}
			if fits != (len(w.Acts()) == 2) && goc || len(w.Stacks()) != 1+int(truth(fits && goc)) {
				t.Errorf("%v of a closure of %d: Acts: %v, Stacks: %v", call, x.of, w.Acts(), w.Stacks())
			}
		}
	}
}

// P17.1: callc, goc of 0, of what is no closure.
func TestNoClosure(t *testing.T) {
	for _, list := range [][]code.Instr{
		{in(op.Nil, 1)}, {in(op.New, 1, pair)}, {in(op.New, 1, bare)}, {in(op.Array, 1, nums, 0)}, {in(op.Array, 1, refs, 0)},
		{in(op.Chan, 1, pipe, 0)}, {in(op.Chan, 1, pipes, 0)},
	} {
		for _, call := range []code.Instr{in(op.Callc, op.None, 1, 0, 0), in(op.Callc, 0, 1, 0, 0), in(op.Goc, 1, 0, 0)} {
			w := begun(t, begins("na", append(list, call)...), begins(""))
			w.do(1)
			acts := len(w.Acts())
			w.do(1)
			w.want(fmt.Sprint(list, call), "[] 2 1")
			if len(w.Acts()) != acts {
				t.Errorf("Acts: %v", w.Acts())
			}
		}
	}
}

// P17.1: what somebody has laid into the heap by hand as a closure of no function is called by nobody.
func TestClosureOfNoFunction(t *testing.T) {
	for _, number := range []int64{-1, 2, 3, 1 << 32, 1<<32 + 1, math.MinInt64, math.MaxInt64} {
		for _, call := range []code.Instr{in(op.Callc, op.None, 0, 0, 0), in(op.Goc, 0, 0, 0)} {
			w := begun(t, begins("a", in(op.Closure, 0, 1, 0), call), begins(""))
			w.do(1)
			w.lay(w.Stack(1)[0], 0, number)
			w.do(1)
			w.want(fmt.Sprint("function ", number), "[] 2 1")
		}
	}
}

// P17.1: what is caught goes behind the arguments, in its order, by callc and by goc; it is what it was when it was caught.
func TestCaught(t *testing.T) {
	body := []code.Instr{show(0), show(2), in(op.Get, 0, 1, 0), show(0), in(op.Get, 0, 3, 0), show(0), show(4), show(5), end()}
	for _, goc := range []bool{false, true} {
		call := in(op.Callc, op.None, 6, 0, 2)
		if goc {
			call = in(op.Goc, 6, 0, 2)
		}
		w := begun(t,
			begins("nanannaa",
				num(0, 1), in(op.New, 1, pair), in(op.Set, 1, 0, 0),
				num(2, 2), in(op.New, 3, pair), in(op.Set, 3, 0, 2), num(4, 4),
				in(op.Closure, 6, 1, 2),
				num(2, 50), num(4, 51), in(op.Nil, 3), num(0, 7), call, poll()),
			fn(2, 3, 0, "nananna", body...))
		w.times(1, 13)
		id := 1
		if goc {
			id = 2
		}
		w.times(id, len(body))
		w.want("what is caught", "[7 2 1 2 4 0] 0 0")
	}
}

// P17.1: return with and without a slot; to a slot of -1; of a goroutine's last call; of goroutine 1's while others are there.
func TestReturn(t *testing.T) {
	w := begun(t, begins("", in(op.Go, 1), in(op.Go, 1), poll()), begins("", in(op.Call, op.None, 2, 0)), fn(0, 0, 1, "n", in(op.Return, 0)))
	w.do(1, 1, 2, 2)
	w.wantActs("a return that is not its last", 2, "[]")
	w.do(2)
	w.wantActs("its last", 2, "[{2 22 1 1 {-1 0 -1}}]")
	w.want("one of three is no more", "[] 0 0")
	if got := w.Stacks(); !slices.Equal(got, []int{1, 3}) || w.Ways(2) != 0 {
		t.Errorf("Stacks: %v", got)
	}
	w.do(3, 1, 1)
	w.want("goroutine 1 has returned", "[] 1 0")
	if got := w.Stacks(); !slices.Equal(got, []int{3}) {
		t.Errorf("Stacks: %v", got)
	}
	w.wantActs("goroutine 1's", 3, "[{1 22 0 3 {-1 0 -1}}]")
}

// P17.1: a goroutine that is no more is black no more (cycle's Dies); one that began is (cycle's Born), in roots and mark alone.
func TestBornAndDies(t *testing.T) {
	for _, m := range moments() {
		for _, begin := range []code.Instr{in(op.Go, 1, 0), in(op.Goc, 0, 0, 0)} {
			w := begun(t, begins("aa", in(op.Closure, 0, 1, 0), begin, poll(), in(op.New, 1, pair), in(op.Get, 0, 1, 1)), begins("", poll()))
			w.do(1)
			w.at(m)
			w.do(1)
			if got := w.Heap().Cycle().Black(2); got != m.shades() {
				t.Errorf("%s: a new one is black: %v", m.name, got)
			}
			w.do(2, 2)
			if w.Heap().Cycle().Black(2) {
				t.Errorf("%s: one that is no more is black", m.name)
			}
			if w.Heap().Cycle().Black(1) != m.black {
				t.Errorf("%s: goroutine 1: %v", m.name, !m.black)
			}
		}
	}
	w := begun(t, begins("", poll()))
	w.to(marking)
	w.do(1, 1)
	if w.Heap().Cycle().Black(1) {
		t.Errorf("goroutine 1 is black behind its return")
	}
}
