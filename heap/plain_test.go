package heap_test

import (
	"slices"

	"gantline/api"
	"gantline/cycle"
	"gantline/head"
)

// reckoning does what the chapter says, in the simplest way, with a collector of its own.
type reckoning struct {
	c      *cycle.Cycle
	shapes []head.Shape
	forced int
}

func reckon(spans int, list []head.Shape) (*reckoning, api.Errno) {
	c, e := cycle.New(spans)
	if e != api.OK {
		return nil, e
	}
	if !slices.ContainsFunc(list, func(s head.Shape) bool { return !head.Good(s) }) {
		for _, s := range list {
			c.Table().Number(s)
		}
		return &reckoning{c: c, shapes: slices.Clone(list)}, api.OK
	}
	return nil, api.EARG
}

func (p *reckoning) add(s head.Shape) (int, api.Errno) {
	if !head.Good(s) {
		return 0, api.EARG
	}
	n := slices.Index(p.shapes, s)
	if n < 0 {
		n = len(p.shapes)
		p.shapes = append(p.shapes, s)
		p.c.Table().Number(s)
	}
	return n, api.OK
}

func (p *reckoning) make(shape, words int, r cycle.Roots) (int64, api.Errno) {
	if shape < 0 || shape > len(p.shapes)-1 || words < 1 || words > 64 {
		return 0, api.EARG
	}
	addr, e := p.c.Take(words)
	if e == api.EFULL {
		p.c.Whole(r)
		p.forced++
		addr, e = p.c.Take(words)
	}
	if e == api.EFULL {
		return 0, api.EFULL
	}
	number, _ := p.c.Table().Number(p.shapes[shape])
	p.c.Arena().Write(addr, 0, int64(words|p.shapes[shape].Kind<<7|number<<10))
	for at := 1; at < words; at++ {
		p.c.Arena().Write(addr, at, 0)
	}
	return addr, api.OK
}

func (p *reckoning) of(addr int64) (head.Head, head.Shape, bool) {
	if !p.c.Arena().Is(addr) {
		return head.Head{}, head.Shape{}, false
	}
	word, _ := p.c.Arena().Read(addr, 0)
	for number := range p.c.Table().Len() {
		for kind := range 4 {
			if words := word - int64(kind<<7|number<<10); words >= 1 && words <= 64 {
				s, _ := p.c.Table().Shape(number)
				return head.Head{Words: int(words), Kind: kind, Shape: number}, s, true
			}
		}
	}
	return head.Head{}, head.Shape{}, false
}

// field tells which trap there is for a field of a plain object.
func (p *reckoning) field(addr int64, field int, address bool) api.Trap {
	what, s, ok := p.of(addr)
	if !ok || what.Kind != 0 {
		return api.TrapNil
	}
	for k := range s.Fields {
		if k == field && k+1 < what.Words && (s.Map>>k%2 == 1) == address {
			return api.TrapNone
		}
	}
	return api.TrapNil
}

// element tells which trap there is for an element of an array.
func (p *reckoning) element(addr, i int64, address bool) api.Trap {
	what, s, ok := p.of(addr)
	if !ok || what.Kind != 1 || (s.Map%2 == 1) != address {
		return api.TrapNil
	}
	for k := range what.Words - 1 {
		if int64(k) == i {
			return api.TrapNone
		}
	}
	return api.TrapIndex
}

// read and write are of a place where there is no trap.
func (p *reckoning) read(trap api.Trap, addr, at int64) (int64, api.Trap) {
	if trap != api.TrapNone {
		return 0, trap
	}
	v, _ := p.c.Arena().Read(addr, int(at)+1)
	return v, api.TrapNone
}

func (p *reckoning) write(trap api.Trap, addr, at, v int64, address, barrier bool, id int) api.Trap {
	if trap != api.TrapNone {
		return trap
	}
	if address && barrier {
		old, _ := p.c.Arena().Read(addr, int(at)+1)
		p.c.Barrier(old, v, id)
	}
	p.c.Arena().Write(addr, int(at)+1, v)
	return api.TrapNone
}

func (p *reckoning) len(addr int64) (int64, api.Trap) {
	what, _, ok := p.of(addr)
	if !ok || what.Kind != 1 {
		return 0, api.TrapNil
	}
	return int64(what.Words) - 1, api.TrapNone
}
