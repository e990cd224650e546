package sched_test

import (
	"gantline/chans"
	"gantline/code"
	"gantline/sched"
)

// plain tells what the chapter says, one sentence after the other, of one goroutine and one partner at a time.
type plain struct{ *world }

// use is one thing that an instruction would do with a channel.
type use struct {
	place int
	sends bool
	addr  int64
	is    bool
}

// next is a goroutine's next instruction; false, if there is none.
func (p plain) next(id int) (code.Instr, bool) {
	s := p.g.Stack(id)
	if s == nil {
		return code.Instr{}, false
	}
	frames := s.Frames()
	if len(frames) == 0 {
		return code.Instr{}, false
	}
	top := frames[len(frames)-1]
	for fn, f := range p.m.Funcs {
		for pc, i := range f.Code {
			if fn == top.Func && pc == top.PC {
				return i, true
			}
		}
	}
	return code.Instr{}, false
}

// is tells whether a slot's word is a channel for what goes from or to another slot.
func (p plain) is(id, at, val int, recv bool) bool {
	addr := p.g.Stack(id).Get(at)
	if recv && val == -1 {
		return chans.Is(p.h, addr, true) || chans.Is(p.h, addr, false)
	}
	top, _ := p.g.Stack(id).Top()
	for slot, kind := range p.m.Funcs[top.Func].Kinds {
		if slot == val {
			return chans.Is(p.h, addr, kind)
		}
	}
	return false
}

// cases are those of a select: none, if one of them is not there.
func (p plain) cases(i code.Instr) []code.Case {
	var list []code.Case
	for n, c := range p.m.Cases {
		if n >= i.A && len(list) < i.B {
			list = append(list, c)
		}
	}
	if i.A < 0 || len(list) != i.B {
		return nil
	}
	return list
}

func (p plain) sendOf(id, place, to, val int) use {
	return use{place, true, p.g.Stack(id).Get(to), p.is(id, to, val, false)}
}

func (p plain) recvOf(id, place, from, val int) use {
	return use{place, false, p.g.Stack(id).Get(from), p.is(id, from, val, true)}
}

// uses are what a goroutine's next instruction would do with channels.
func (p plain) uses(id int) []use {
	i, _ := p.next(id)
	switch code.Name(i.Op) {
	case "send":
		return []use{p.sendOf(id, -1, i.A, i.B)}
	case "recv":
		return []use{p.recvOf(id, -1, i.B, i.A)}
	case "select":
		var list []use
		for k, c := range p.cases(i) {
			switch c.Kind {
			case 0:
				list = append(list, p.recvOf(id, k, c.Chan, c.Val))
			case 1:
				list = append(list, p.sendOf(id, k, c.Chan, c.Val))
			}
		}
		return list
	}
	return nil
}

// waysOf are those of one use, of a channel that is one.
func (p plain) waysOf(id int, u use) []sched.Way {
	alone := []sched.Way{{Case: u.place, Partner: 0, PartnerCase: -1}}
	count, room := chans.Count(p.h, u.addr), chans.Room(p.h, u.addr)
	switch {
	case chans.Closed(p.h, u.addr), u.sends && count < room, !u.sends && count > 0:
		return alone
	case room != 0:
		return nil
	}
	var list []sched.Way
	for q := 1; q <= 1000; q++ {
		if q == id || p.g.Stack(q) == nil {
			continue
		}
		for _, v := range p.uses(q) {
			if v.is && v.addr == u.addr && v.sends != u.sends {
				list = append(list, sched.Way{Case: u.place, Partner: q, PartnerCase: v.place})
			}
		}
	}
	return list
}

func (p plain) ways(id int) []sched.Way {
	i, ok := p.next(id)
	if !ok {
		return nil
	}
	alone := []sched.Way{{Case: -1, Partner: 0, PartnerCase: -1}}
	switch code.Name(i.Op) {
	case "send", "recv":
		if u := p.uses(id)[0]; u.is {
			return p.waysOf(id, u)
		}
		return alone
	case "select":
		var list []sched.Way
		for _, u := range p.uses(id) {
			if u.is {
				list = append(list, p.waysOf(id, u)...)
			}
		}
		for k, c := range p.cases(i) {
			if c.Kind == 2 && len(list) == 0 {
				list = append(list, sched.Way{Case: k, Partner: 0, PartnerCase: -1})
			}
		}
		return list
	}
	return alone
}
