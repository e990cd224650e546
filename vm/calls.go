package vm

import (
	"gantline/api"
	"gantline/code"
	"gantline/op"
)

// A Func's Result, by chapter 9's numbers.
const (
	resultNone = iota
	resultNumber
	resultAddress
)

// callee is a function, and what its first slots hold.
type callee struct {
	fn   int
	args []int64
}

// call lets the function begin. The caller stands at its call till the return.
func (s *step) call() ending {
	c, ok := s.callee()
	if !ok {
		return fallen(api.TrapNil)
	}
	if s.stack.Call(s.v.module, c.fn, c.args) != api.OK {
		return fallen(api.TrapDeep)
	}
	return goesOn
}

// spawn begins a goroutine. It is black, as it holds nothing that is not shaded.
func (s *step) spawn() ending {
	c, ok := s.callee()
	if !ok {
		return fallen(api.TrapNil)
	}
	id, e := s.v.table.Add(c.fn, c.args)
	if e != api.OK {
		return fallen(api.TrapDeep)
	}
	kinds := s.v.module.Funcs[c.fn].Kinds
	for slot, word := range c.args {
		if kinds[slot] {
			s.shade(word)
		}
	}
	s.cycle().Born(id)
	return goesOn
}

// callee is what it calls; false, if that is a closure that cannot be called so.
func (s *step) callee() (callee, bool) {
	switch s.Op {
	case op.Call:
		return s.function(s.B, s.C), true
	case op.Go:
		return s.function(s.A, s.B), true
	case op.Callc:
		return s.closure(s.B, s.C, s.D)
	}
	return s.closure(s.A, s.B, s.C)
}

// function is one that is called with the slots from first on.
func (s *step) function(fn, first int) callee {
	return callee{fn, s.run(first, s.v.module.Funcs[fn].Params)}
}

// run are the words of so many slots. None of them may be there to be asked: a run of none may begin anywhere.
func (s *step) run(first, count int) []int64 {
	words := make([]int64, count)
	for k := range words {
		words[k] = s.stack.Get(first + k)
	}
	return words
}

// closure is the function of the closure in a slot, called with so many slots from first on, and with what it has caught; false, if it cannot be called so.
func (s *step) closure(slot, first, count int) (callee, bool) {
	addr := s.stack.Get(slot)
	fn, ok := s.v.functionOf(addr)
	if !ok {
		return callee{}, false
	}
	f := s.v.module.Funcs[fn]
	if !s.takes(f, first, count) || !s.asks(f.Result) {
		return callee{}, false
	}
	return callee{fn, append(s.run(first, count), s.v.caught(addr, f.Caught)...)}, true
}

// takes tells whether a function can be called with so many slots from first on.
func (s *step) takes(f code.Func, first, count int) bool {
	if f.Params != count {
		return false
	}
	for k, kind := range f.Kinds[:count] {
		if s.kinds[first+k] != kind {
			return false
		}
	}
	return true
}

// asks tells whether a closure's Result is what is asked for.
func (s *step) asks(result int) bool {
	switch {
	case s.Op == op.Goc:
		return result == resultNone
	case s.A == op.None:
		return true
	case s.kinds[s.A]:
		return result == resultAddress
	}
	return result == resultNumber
}

// giveBack ends the top call: the caller gets what it answers, or, if there is no caller, the goroutine is no more.
func (s *step) giveBack() ending {
	// Of no slot this is 0, and then nobody asks for it.
	word := s.stack.Get(s.A)
	if s.stack.Return() {
		s.answer(word)
		return goesOn
	}
	s.v.table.Drop(s.id)
	s.cycle().Dies(s.id)
	if s.id == firstID {
		return ending{end: api.EndExit}
	}
	return goesOn
}

// answer lets the caller go on behind its call.
func (s *step) answer(word int64) {
	call, _ := s.stack.At(s.v.module)
	if call.A != op.None {
		s.stack.Set(call.A, word)
	}
	top, _ := s.stack.Top()
	s.stack.Jump(top.PC + 1)
}
