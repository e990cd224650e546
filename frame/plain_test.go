package frame_test

import (
	"math/big"
	"slices"

	"gantline/api"
	"gantline/code"
	"gantline/frame"
)

// plain is what a stack should be like, reckoned as the chapter says it: a list that is built anew at each call.
type plain struct{ list []frame.Frame }

func sumOf(f code.Func) *big.Int {
	return new(big.Int).Add(big.NewInt(int64(f.Params)), big.NewInt(int64(f.Caught)))
}

// error is what New and Call say, but for MaxCalls.
func (p *plain) error(m code.Module, fn int, args []int64) api.Errno {
	if !slices.Contains(numbersBelow(len(m.Funcs)), fn) {
		return api.EARG
	}
	f := m.Funcs[fn]
	if f.Params < 0 || f.Caught < 0 || sumOf(f).Cmp(big.NewInt(int64(len(args)))) != 0 {
		return api.EARG
	}
	if sumOf(f).Cmp(big.NewInt(int64(f.Slots))) > 0 {
		return api.EARG
	}
	if f.Slots < 0 || f.Slots > 64 {
		return api.EARG
	}
	return api.OK
}

func numbersBelow(n int) []int {
	var list []int
	for k := range n {
		list = append(list, k)
	}
	return list
}

func (p *plain) call(m code.Module, fn int, args []int64) api.Errno {
	if len(p.list) == 256 {
		return api.ELIMIT
	}
	if e := p.error(m, fn, args); e != api.OK {
		return e
	}
	slots := slices.Clone(args)
	for len(slots) < m.Funcs[fn].Slots {
		slots = append(slots, 0)
	}
	p.list = append(slices.Clone(p.list), frame.Frame{Func: fn, Slots: slots})
	return api.OK
}

func (p *plain) back() bool {
	switch len(p.list) {
	case 0:
		return false
	case 1:
		p.list = nil
		return false
	}
	p.list = slices.Clone(p.list[:len(p.list)-1])
	return true
}

// change puts another frame in the top one's place.
func (p *plain) change(how func(f frame.Frame) frame.Frame) {
	if n := len(p.list); n > 0 {
		p.list = append(slices.Clone(p.list[:n-1]), how(p.list[n-1]))
	}
}

func (p *plain) jump(pc int) {
	p.change(func(f frame.Frame) frame.Frame { return frame.Frame{Func: f.Func, PC: pc, Slots: f.Slots} })
}

func (p *plain) set(slot int, v int64) {
	p.change(func(f frame.Frame) frame.Frame {
		g := frame.Frame{Func: f.Func, PC: f.PC}
		for k, old := range f.Slots {
			if k == slot {
				old = v
			}
			g.Slots = append(g.Slots, old)
		}
		return g
	})
}

func (p *plain) get(slot int) int64 {
	if len(p.list) > 0 {
		for k, v := range p.list[len(p.list)-1].Slots {
			if k == slot {
				return v
			}
		}
	}
	return 0
}

func (p *plain) at(m code.Module) (code.Instr, bool) {
	if len(p.list) > 0 {
		top := p.list[len(p.list)-1]
		for fn, f := range m.Funcs {
			for pc, i := range f.Code {
				if fn == top.Func && pc == top.PC {
					return i, true
				}
			}
		}
	}
	return code.Instr{}, false
}

func (p *plain) point(m code.Module) bool {
	i, ok := p.at(m)
	return ok && slices.Contains([]string{"call", "callc", "go", "goc", "new", "array", "closure", "chan", "send", "recv", "select", "poll"}, code.Name(i.Op))
}

func (p *plain) roots(m code.Module) []int64 {
	var words []int64
	for _, call := range p.list {
		for fn, f := range m.Funcs {
			for pc, set := range f.Maps {
				if fn == call.Func && pc == call.PC {
					words = append(words, wordsOf(call, set)...)
				}
			}
		}
	}
	return words
}

func wordsOf(call frame.Frame, set uint64) []int64 {
	var words []int64
	for _, word := range call.Slots {
		if set%2 == 1 && word != 0 {
			words = append(words, word)
		}
		set /= 2
	}
	return words
}
