package vm

import (
	"gantline/api"
	"gantline/chans"
	"gantline/code"
	"gantline/frame"
	"gantline/op"
)

const nobody = 0 // a Way's Partner, where there is none

// party is a goroutine's part where something goes through a channel. A send and a recv are like a case whose Target is behind them.
type party struct {
	code.Case
	stack   *frame.Stack
	flag    int  // the slot that tells whether something came; op.None, if there is none
	address bool // does Val hold an address?
}

// partyOf is a goroutine's by its next instruction; place is that of its case, if that is a select.
func (v *Machine) partyOf(id, place int) party {
	stack := v.table.Stack(id)
	top, _ := stack.Top()
	i, _ := stack.At(v.module)
	p := party{stack: stack, flag: op.None}
	switch i.Op {
	case op.Send:
		p.Case = code.Case{Kind: op.CaseSend, Chan: i.A, Val: i.B, Target: top.PC + 1}
	case op.Recv:
		p.Case = code.Case{Kind: op.CaseRecv, Chan: i.B, Val: i.A, Target: top.PC + 1}
		p.flag = i.C
	case op.Select:
		p.Case = v.module.Cases[i.A+place]
	}
	// A default's Val may be any number.
	if p.Kind != op.CaseDefault && p.Val != op.None {
		p.address = v.module.Funcs[top.Func].Kinds[p.Val]
	}
	return p
}

// channel is the address of its channel; false, if there is none for what its slot holds.
func (p party) channel(v *Machine) (int64, bool) {
	addr := p.stack.Get(p.Chan)
	if p.Val == op.None {
		return addr, v.isChannel(addr)
	}
	return addr, chans.Is(v.heap, addr, p.address)
}

// isChannel tells whether it is one, whatever goes through it.
func (v *Machine) isChannel(addr int64) bool {
	return chans.Is(v.heap, addr, false) || chans.Is(v.heap, addr, true)
}

// gets lets it have what came, or 0 if nothing does. No slot is none that can be set.
func (p party) gets(word int64, came bool) {
	p.stack.Set(p.Val, word)
	p.stack.Set(p.flag, oneIf(came))
}

func (p party) goOn() { p.stack.Jump(p.Target) }

// talk does a send, a recv or a select.
func (s *step) talk() ending {
	own := s.v.partyOf(s.id, s.way.Case)
	if s.way.Partner != nobody {
		s.meet(own, s.v.partyOf(s.way.Partner, s.way.PartnerCase))
		return goesOn
	}
	e := s.alone(own)
	if e == goesOn {
		own.goOn()
	}
	return e
}

// meet lets a thing go from hand to hand.
func (s *step) meet(own, other party) {
	from, to := own, other
	if own.Kind == op.CaseRecv {
		from, to = other, own
	}
	word := from.stack.Get(from.Val)
	if from.address {
		s.shade(word)
	}
	to.gets(word, true)
	from.goOn()
	to.goOn()
}

// alone does what needs no partner.
func (s *step) alone(own party) ending {
	switch own.Kind {
	case op.CaseSend:
		return s.send(own)
	case op.CaseRecv:
		return s.receive(own)
	}
	return goesOn
}

func (s *step) send(own party) ending {
	addr, ok := own.channel(s.v)
	if !ok {
		return fallen(api.TrapNil)
	}
	if chans.Closed(s.v.heap, addr) {
		return fallen(api.TrapClosed)
	}
	chans.Push(s.v.heap, addr, own.stack.Get(own.Val), s.id)
	return goesOn
}

func (s *step) receive(own party) ending {
	addr, ok := own.channel(s.v)
	if !ok {
		return fallen(api.TrapNil)
	}
	// It waits at one that is open and empty: so where nothing comes out, it is closed.
	own.gets(chans.Pop(s.v.heap, addr))
	return goesOn
}

func (s *step) closeChannel() ending {
	addr := s.stack.Get(s.A)
	if !s.v.isChannel(addr) {
		return fallen(api.TrapNil)
	}
	if !chans.Close(s.v.heap, addr) {
		return fallen(api.TrapClosed)
	}
	return goesOn
}
