package vm

import (
	"gantline/api"
	"gantline/code"
	"gantline/cycle"
	"gantline/frame"
	"gantline/op"
	"gantline/sched"
)

// step is one instruction of one goroutine, while it is done. What it names is there: verify has seen to that.
type step struct {
	code.Instr
	v      *Machine
	id     int
	way    sched.Way
	stack  *frame.Stack
	fn, pc int    // where it stands
	kinds  []bool // of its slots
}

// stepOf is of a goroutine that has that Way.
func (v *Machine) stepOf(id int, way sched.Way) *step {
	stack := v.table.Stack(id)
	top, _ := stack.Top()
	i, _ := stack.At(v.module)
	return &step{i, v, id, way, stack, top.Func, top.PC, v.module.Funcs[top.Func].Kinds}
}

// tells tells whether others can tell that it was done.
func (s *step) tells() bool {
	switch s.Op {
	case op.Return:
		return s.stack.Depth() == 1
	case op.Closure:
		// Nobody else knows it yet.
		return false
	}
	return s.Op >= op.Go && s.Op <= op.Print
}

func (s *step) act() Act { return Act{s.id, s.Op, s.fn, s.pc, s.way} }

// do does it. With a trap, or without memory, the goroutine still stands at it: behind it the map could name a slot that nothing was written into.
func (s *step) do() ending {
	switch s.Op {
	case op.Jump:
		s.stack.Jump(s.A)
		return goesOn
	case op.If:
		s.stack.Jump(s.branch())
		return goesOn
	case op.Call, op.Callc:
		return s.call()
	case op.Return:
		return s.giveBack()
	case op.Send, op.Recv, op.Select:
		return s.talk()
	case op.Trap:
		return fallen(api.Trap(s.A))
	}
	e := s.straight()
	if e == goesOn {
		s.stack.Jump(s.pc + 1)
	}
	return e
}

func (s *step) branch() int {
	if s.stack.Get(s.A) != 0 {
		return s.B
	}
	return s.pc + 1
}

// straight does one behind which it is the next one's turn.
func (s *step) straight() ending {
	switch s.Op {
	case op.Go, op.Goc:
		return s.spawn()
	case op.Set, op.Setn, op.Put, op.Putn, op.Store:
		return s.write()
	case op.Close:
		return s.closeChannel()
	case op.Print:
		s.print()
		return goesOn
	case op.Poll:
		return goesOn
	}
	word, e := s.word()
	if e == goesOn {
		s.stack.Set(s.A, word)
	}
	return e
}

// word is what slot A gets.
func (s *step) word() (int64, ending) {
	switch s.Op {
	case op.Const:
		return s.v.module.Consts[s.B], goesOn
	case op.Move:
		return s.stack.Get(s.B), goesOn
	case op.Nil:
		return 0, goesOn
	case op.Not:
		return oneIf(s.stack.Get(s.B) == 0), goesOn
	case op.New, op.Array, op.Closure, op.Chan:
		return s.made()
	case op.Get, op.At, op.Len, op.Load:
		return s.read()
	}
	word, trap := reckon(s.Op, s.stack.Get(s.B), s.stack.Get(s.C))
	return word, fallen(trap)
}

func (s *step) print() {
	if len(s.v.out) < api.MaxOut {
		s.v.out = append(s.v.out, s.stack.Get(s.A))
	}
}

func (s *step) cycle() *cycle.Cycle { return s.v.heap.Cycle() }

// shade shades an address that goes to another stack, which may be black. What is written over is shaded in roots and mark, whoever writes: so a barrier is told that it were that.
func (s *step) shade(addr int64) { s.cycle().Barrier(addr, 0, s.id) }
