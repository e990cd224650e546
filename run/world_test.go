package run_test

import (
	"fmt"
	"slices"
	"testing"

	"gantline/api"
	"gantline/code"
	"gantline/geom"
	"gantline/head"
	"gantline/live"
	"gantline/op"
	"gantline/run"
	"gantline/vm"
)

// The shapes of all modules here.
const (
	pair  = iota // a number and an address
	pipe         // a channel of numbers
	pipes        // a channel of addresses
)

func shapes() []head.Shape {
	return []head.Shape{pair: {Fields: 2, Map: 2}, pipe: {Kind: 3}, pipes: {Kind: 3, Map: 1}}
}

// The globals of all modules here.
const (
	globalNum = iota
	globalRef
)

// The constants of all modules here are these numbers, each at its own place, and the great one behind them.
const (
	smallConsts = 40
	great       = 33332
)

func consts() []int64 {
	var list []int64
	for v := range int64(smallConsts) {
		list = append(list, v)
	}
	return append(list, great)
}

// in is an instruction.
func in(o int, operands ...int) code.Instr {
	all := [4]int{}
	copy(all[:], operands)
	return code.Instr{Op: o, A: all[0], B: all[1], C: all[2], D: all[3]}
}

func num(slot, v int) code.Instr     { return in(op.Const, slot, v) }
func end() code.Instr                { return in(op.Return, op.None) }
func show(slot int) code.Instr       { return in(op.Print, slot) }
func poll() code.Instr               { return in(op.Poll) }
func jump(pc int) code.Instr         { return in(op.Jump, pc) }
func spawn(f, first int) code.Instr  { return in(op.Go, f, first) }
func recv(slot, from int) code.Instr { return in(op.Recv, slot, from, op.None) }

// fn is a function with a slot for each letter of kinds, n or a.
func fn(params, result int, kinds string, list ...code.Instr) code.Func {
	f := code.Func{Params: params, Slots: len(kinds), Result: result, Code: list}
	for _, letter := range kinds {
		f.Kinds = append(f.Kinds, letter == 'a')
	}
	return f
}

// module is one of these functions, the first one Main.
func module(cases []code.Case, funcs ...code.Func) code.Module {
	m := code.Module{Shapes: shapes(), Globals: []bool{globalNum: false, globalRef: true}, Consts: consts(), Cases: cases, Funcs: funcs}
	for n, f := range m.Funcs {
		m.Funcs[n].Maps = live.Maps(m, f)
	}
	return m
}

// printer prints 5, and exits: the chapter's example.
func printer() code.Module {
	return module(nil, fn(0, 0, "n", num(0, 5), show(0), end()))
}

// talkers begins so many goroutines that send their numbers, from 1 on, and prints what comes; there is no room for any.
func talkers(count int) code.Module {
	list := []code.Instr{num(0, 0), in(op.Chan, 1, pipe, 0)}
	for n := range count {
		list = append(list, num(0, n+1), spawn(1, 0))
	}
	for range count {
		list = append(list, recv(0, 1), show(0))
	}
	return module(nil, fn(0, 0, "na", append(list, end())...), fn(2, 0, "na", in(op.Send, 1, 0), end()))
}

// talking is how many instructions of main are ahead of the first that waits, in talkers.
func talking(count int) int { return 2 + 2*count }

// chooser selects, again and again, from one channel with two who send, one with three, and one that has room for one; it prints what came, and waits at last for what never comes.
func chooser() code.Module {
	list := []code.Instr{num(5, 0), in(op.Chan, 1, pipe, 5), in(op.Chan, 3, pipe, 5), num(5, 1), in(op.Chan, 4, pipe, 5)}
	for _, v := range []int{11, 12} {
		list = append(list, num(0, v), spawn(1, 0))
	}
	for _, v := range []int{21, 22, 23} {
		list = append(list, num(2, v), spawn(1, 2))
	}
	at := len(list)
	list = append(list, poll(), in(op.Select, 0, 3), show(5), jump(at))
	cases := []code.Case{{Kind: 0, Chan: 1, Val: 5, Target: at + 2}, {Kind: 0, Chan: 3, Val: 5, Target: at + 2}, {Kind: 1, Chan: 4, Val: 5, Target: at}}
	return module(cases, fn(0, 0, "nanaan", list...), fn(2, 0, "na", in(op.Send, 1, 0), end()))
}

// spinner never ends, and nobody can tell what it does.
func spinner() code.Module { return module(nil, fn(0, 0, "n", poll(), jump(0))) }

// faller divides by 0.
func faller() code.Module {
	return module(nil, fn(0, 0, "n", num(0, 3), show(0), num(0, 0), in(op.Div, 0, 0, 0), show(0), end()))
}

// waiter waits for what never comes.
func waiter() code.Module {
	return module(nil, fn(0, 0, "na", num(0, 0), in(op.Chan, 1, pipe, 0), recv(0, 1), end()))
}

// stuck has ended ahead of its first instruction: its select has no case that could be.
func stuck() code.Module {
	return module([]code.Case{{Kind: 0, Chan: 1, Val: 0, Target: 1}}, fn(0, 0, "na", in(op.Select, 0, 1), end()))
}

// hoarder keeps all that it makes.
func hoarder() code.Module {
	return module(nil, fn(0, 0, "aa", in(op.Nil, 0), poll(), in(op.New, 1, pair), in(op.Set, 1, 1, 0), in(op.Move, 0, 1), jump(1)))
}

// litterer keeps nothing of what it makes.
func litterer() code.Module {
	return module(nil, fn(0, 0, "a", poll(), in(op.New, 0, pair), jump(0)))
}

// caller calls: a call and its return are nothing that others can tell.
func caller() code.Module {
	return module(nil,
		fn(0, 0, "n", num(0, 7), in(op.Call, 0, 1, 0), show(0), in(op.Call, op.None, 2, 0), show(0), end()),
		fn(1, 1, "nn", in(op.Call, op.None, 2, 0), num(1, 2), in(op.Mul, 0, 0, 1), in(op.Return, 0)),
		fn(0, 0, "n", num(0, 9), end()))
}

// mixer has goroutines that keep objects in a global and send them to each other.
func mixer() code.Module {
	work := fn(2, 0, "naan", in(op.New, 2, pair), in(op.Set, 2, 0, 0), in(op.Load, 1, globalRef), in(op.Set, 2, 1, 1), in(op.Store, globalRef, 2),
		in(op.Load, 3, globalNum), in(op.Add, 3, 3, 0), in(op.Store, globalNum, 3), poll(), in(op.New, 1, pair), in(op.If, 3, 8), end())
	list := []code.Instr{num(0, 1), in(op.Chan, 1, pipes, 0), spawn(1, 0), num(0, 2), spawn(1, 0), poll(), in(op.New, 2, pair), in(op.Send, 1, 2), in(op.Recv, 2, 1, 0), in(op.Get, 0, 2, 0), show(0), in(op.Load, 2, globalRef), in(op.Load, 0, globalNum), show(0), jump(5)}
	return module(nil, fn(0, 0, "naa", list...), work)
}

// named is a module and how it is called.
type named struct {
	name string
	m    code.Module
}

// modules are all of these, always in the same order, so that the dice fall alike.
func modules() []named {
	return []named{
		{"printer", printer()}, {"no talkers", talkers(0)}, {"a talker", talkers(1)}, {"five talkers", talkers(5)}, {"chooser", chooser()}, {"spinner", spinner()}, {"faller", faller()},
		{"waiter", waiter()}, {"stuck", stuck()}, {"hoarder", hoarder()}, {"litterer", litterer()}, {"caller", caller()}, {"mixer", mixer()}, {"breeder", breeder()},
	}
}

// breeder begins goroutines that do nothing, again and again.
func breeder() code.Module {
	return module(nil, fn(0, 0, "n", poll(), spawn(1, 0), jump(0)), fn(0, 0, "", end()))
}

// bad may not be run.
func bad() code.Module {
	m := printer()
	m.Main = 1
	return m
}

func begun(t *testing.T, m code.Module, spans int) *vm.Machine {
	t.Helper()
	v, e := vm.New(m, spans)
	if v == nil || e != api.OK {
		t.Fatalf("New: %d", e)
	}
	return v
}

// does lets a goroutine go on so often in its first way, which must be.
func does(t *testing.T, v *vm.Machine, id, often int) {
	t.Helper()
	for range often {
		if !v.Do(id, 0) {
			t.Fatalf("Do(%d, 0) is refused", id)
		}
	}
}

// resting is talkers(count) where main is the first time at a recv: all are enabled, main in count ways.
func resting(t *testing.T, count int) *vm.Machine {
	t.Helper()
	v := begun(t, talkers(count), 8)
	does(t, v, 1, talking(count))
	if v.Ways(1) != count || len(v.Enabled()) != count+1 {
		t.Fatalf("%d ways, enabled: %v", v.Ways(1), v.Enabled())
	}
	return v
}

// picture tells all that can be told of a machine.
func picture(v *vm.Machine) string {
	c := v.Heap().Cycle()
	a := c.Arena()
	e, trap := v.End()
	s := fmt.Sprint(e, trap, v.Enabled(), v.Out(), v.Acts(), v.Globals(), v.Stacks(), v.Live(), v.Sound())
	for id := range 12 {
		s += fmt.Sprint(";", v.Ways(id), v.Stack(id), c.Black(id))
	}
	s += fmt.Sprint(c.Phase(), c.Done(), c.Wants(), c.Marker().Left(), v.Heap().Forced())
	for span := range a.Spans() {
		class := a.Class(span)
		s += fmt.Sprint(";", class, a.Taken(span), a.Marked(span))
		for place := range geom.Places(class) {
			for at := range geom.Words(class) {
				word, _ := a.Read(geom.Addr(span, place, class), at)
				s += fmt.Sprint(",", word)
			}
		}
	}
	return s
}

// told is a Result in words: what was printed, End, Trap, Steps, Collected, Forced, how many Acts.
func told(r run.Result) string {
	return fmt.Sprint(r.Out, int(r.End), int(r.Trap), r.Steps, r.Collected, r.Forced, len(r.Acts))
}

// whole is a Result in words, with all that its Acts tell.
func whole(r run.Result) string { return fmt.Sprint(told(r), r.Acts) }

// zero tells whether nothing is told.
func zero(r run.Result) bool { return whole(r) == whole(run.Result{}) }

// ones are so many picks of one number.
func ones(pick, often int) []int { return slices.Repeat([]int{pick}, often) }

// dice tells numbers that look like chance, and are always the same.
type dice uint64

func (d *dice) below(n int) int {
	*d = *d*6364136223846793005 + 1442695040888963407
	return int(uint64(*d) >> 33 % uint64(n))
}
