package vm

import (
	"gantline/api"
	"gantline/chans"
	"gantline/code"
	"gantline/head"
	"gantline/op"
)

const closureKind = 2 // that a closure's head tells

// A closure's words: its head, the function's number, what it catches.
const (
	functionAt = 1
	caughtAt   = 2
)

const maxLength = api.MaxWords - 1 // of an array: its head takes one word

// made is the address of what a Maker makes.
func (s *step) made() (int64, ending) {
	switch s.Op {
	case op.New:
		return s.object(s.B, s.v.module.Shapes[s.B].Fields+1)
	case op.Array:
		return s.array(s.stack.Get(s.C))
	case op.Closure:
		return s.newClosure(s.v.module.Funcs[s.B])
	}
	addr, trap, e := chans.Make(s.v.heap, s.B, s.stack.Get(s.C), s.v)
	if trap != api.TrapNone {
		return 0, fallen(trap)
	}
	return addr, fits(e)
}

// object makes one of a shape and so many words.
func (s *step) object(shape, words int) (int64, ending) {
	addr, e := s.v.heap.Make(shape, words, s.v)
	return addr, fits(e)
}

// fits is behind heap's Make: what there is no room for ends all.
func fits(e api.Errno) ending {
	if e != api.OK {
		return ending{end: api.EndMemory}
	}
	return goesOn
}

func (s *step) array(length int64) (int64, ending) {
	if length < 0 || length > maxLength {
		return 0, fallen(api.TrapSize)
	}
	return s.object(s.B, int(length)+1)
}

// newClosure makes one of a function, with what it catches from slot C on.
func (s *step) newClosure(f code.Func) (int64, ending) {
	shape, e := s.v.heap.Add(closureShape(f))
	if e != api.OK {
		return 0, fits(e)
	}
	addr, end := s.object(shape, caughtAt+f.Caught)
	if end != goesOn {
		return 0, end
	}
	arena := s.cycle().Arena()
	arena.Write(addr, functionAt, int64(s.B))
	for k, word := range s.run(s.C, f.Caught) {
		if f.Kinds[f.Params+k] {
			s.cycle().Barrier(0, word, s.id)
		}
		arena.Write(addr, caughtAt+k, word)
	}
	return addr, goesOn
}

// closureShape is that of a function's closures.
func closureShape(f code.Func) head.Shape {
	shape := head.Shape{Kind: closureKind, Fields: 1 + f.Caught}
	for k := range f.Caught {
		if f.Kinds[f.Params+k] {
			shape.Map |= 1 << (1 + k)
		}
	}
	return shape
}

// functionOf is the function of a closure; false, if it is none.
func (v *Machine) functionOf(addr int64) (int, bool) {
	what, _, ok := v.heap.Of(addr)
	if !ok || what.Kind != closureKind {
		return 0, false
	}
	fn, _ := v.heap.Cycle().Arena().Read(addr, functionAt)
	// Whoever has the heap can have made a closure of any number.
	return int(fn), fn >= 0 && fn < int64(len(v.module.Funcs))
}

// caught are the first so many things that a closure has caught.
func (v *Machine) caught(addr int64, count int) []int64 {
	words := make([]int64, count)
	for k := range words {
		words[k], _ = v.heap.Cycle().Arena().Read(addr, caughtAt+k)
	}
	return words
}

// read is what is read of an object, an array or a global.
func (s *step) read() (int64, ending) {
	if s.Op == op.Load {
		return s.v.globals[s.B], goesOn
	}
	var word int64
	var trap api.Trap
	addr := s.stack.Get(s.B)
	switch s.Op {
	case op.Get:
		word, trap = s.v.heap.Get(addr, s.C, s.kinds[s.A])
	case op.At:
		word, trap = s.v.heap.At(addr, s.stack.Get(s.C), s.kinds[s.A])
	case op.Len:
		word, trap = s.v.heap.Len(addr)
	}
	return word, fallen(trap)
}

// write writes a slot into an object, an array or a global.
func (s *step) write() ending {
	h, addr, word := s.v.heap, s.stack.Get(s.A), s.stack.Get(s.C)
	switch s.Op {
	case op.Set, op.Setn:
		return fallen(h.Set(addr, s.B, word, s.kinds[s.C], s.Op == op.Set, s.id))
	case op.Put, op.Putn:
		return fallen(h.Put(addr, s.stack.Get(s.B), word, s.kinds[s.C], s.Op == op.Put, s.id))
	}
	s.store(s.stack.Get(s.B))
	return goesOn
}

func (s *step) store(word int64) {
	global := &s.v.globals[s.A]
	if s.v.module.Globals[s.A] {
		s.cycle().Barrier(*global, word, s.id)
	}
	*global = word
}
