package sched

import (
	"slices"

	"gantline/chans"
	"gantline/code"
	"gantline/heap"
	"gantline/op"
)

// side is one of a channel's two: where things are put in, or where they come out.
type side struct {
	addr  int64
	sends bool
}

// across is the side at which partners stand.
func (s side) across() side { return side{s.addr, !s.sends} }

// offer is what a goroutine may do with a channel: by a send, a recv, or a case of a select.
type offer struct {
	side
	place int  // of the case among the select's; noCase of a send or recv
	is    bool // is the channel one for it?
}

// ready tells whether it can be done, or falls, without a partner.
func (o offer) ready(h *heap.Heap) bool {
	if !o.is || chans.Closed(h, o.addr) {
		return true
	}
	if o.sends {
		return chans.Count(h, o.addr) < chans.Room(h, o.addr)
	}
	return chans.Count(h, o.addr) > 0
}

// meets tells whether things go from hand to hand there.
func (o offer) meets(h *heap.Heap) bool { return chans.Room(h, o.addr) == 0 }

// talks tells whether an instruction may have to wait for others.
func talks(o int) bool { return o == op.Send || o == op.Recv || o == op.Select }

// casesOf are a select's cases, none if they are not all there; a send and a recv are like one case.
func casesOf(m code.Module, i code.Instr) []code.Case {
	switch i.Op {
	case op.Send:
		return []code.Case{{Kind: op.CaseSend, Chan: i.A, Val: i.B}}
	case op.Recv:
		return []code.Case{{Kind: op.CaseRecv, Chan: i.B, Val: i.A}}
	case op.Select:
		// A + B could wrap round; how many there are less A cannot, as A is not below 0.
		if i.A >= 0 && i.B >= 0 && i.B <= len(m.Cases)-i.A {
			return m.Cases[i.A : i.A+i.B]
		}
	}
	return nil
}

// placeIn is what a Way tells of a case: only a select has cases of its own.
func placeIn(i code.Instr, place int) int {
	if i.Op == op.Select {
		return place
	}
	return noCase
}

// defaultOf is the place of the first default; -1, if there is none.
func defaultOf(cases []code.Case) int {
	return slices.IndexFunc(cases, func(c code.Case) bool { return c.Kind == op.CaseDefault })
}

func usesChannel(c code.Case) bool { return c.Kind == op.CaseSend || c.Kind == op.CaseRecv }

func sideOf(c code.Case, addr int64) side { return side{addr, c.Kind == op.CaseSend} }

// fits tells whether there is a channel for a case: one of things such as its slot holds.
func fits(h *heap.Heap, addr int64, c code.Case, kinds []bool) bool {
	if c.Kind == op.CaseRecv && c.Val == op.None {
		return chans.Is(h, addr, false) || chans.Is(h, addr, true)
	}
	// A slot that there is not holds nothing: no channel is of its kind.
	return c.Val >= 0 && c.Val < len(kinds) && chans.Is(h, addr, kinds[c.Val])
}
