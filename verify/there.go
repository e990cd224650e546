package verify

import (
	"gantline/api"
	"gantline/code"
	"gantline/op"
)

// Those of head's Kinds that instructions ask for.
const (
	kindPlain   = 0
	kindArray   = 1
	kindChannel = 3
)

// slotsThere is rule 4.
func (j *judge) slotsThere(x item) bool {
	for k, r := range x.roles {
		if !j.slotThere(r, x.operands[k]) {
			return false
		}
	}
	for _, c := range x.cases {
		if !j.caseSlotsThere(c) {
			return false
		}
	}
	return j.runThere(x.run)
}

func (j *judge) slotThere(r role, v int) bool {
	switch r {
	case anySlot, numberSlot, addressSlot:
		return isIn(v, j.f.Slots)
	case slotOrNone, numberOrNone:
		return v == op.None || isIn(v, j.f.Slots)
	}
	return true
}

func (j *judge) caseSlotsThere(c code.Case) bool {
	switch c.Kind {
	case op.CaseRecv:
		return j.slotThere(anySlot, c.Chan) && j.slotThere(slotOrNone, c.Val)
	case op.CaseSend:
		return j.slotThere(anySlot, c.Chan) && j.slotThere(anySlot, c.Val)
	}
	return true
}

func (j *judge) runThere(r run) bool {
	// A run of no slots names none, wherever it begins.
	if r.count <= 0 {
		return true
	}
	// first + count could wrap round.
	return isIn(r.first, j.f.Slots) && r.count <= j.f.Slots-r.first
}

// namedThere is rule 5.
func (j *judge) namedThere(x item) bool {
	for k, r := range x.roles {
		if !j.isThere(r, x.operands[k]) {
			return false
		}
	}
	switch x.Op {
	case op.Call:
		return j.m.Funcs[x.B].Caught == 0
	case op.Go:
		f := j.m.Funcs[x.A]
		return f.Caught == 0 && f.Result == resultNone
	case op.Select:
		return casesGood(x.cases) && j.take(x.A, x.B)
	}
	return true
}

func (j *judge) isThere(r role, v int) bool {
	switch r {
	case constant:
		return isIn(v, len(j.m.Consts))
	case plainShape:
		return j.hasShape(v, kindPlain)
	case arrayShape:
		return j.hasShape(v, kindArray)
	case channelShape:
		return j.hasShape(v, kindChannel)
	case global:
		return isIn(v, len(j.m.Globals))
	case function:
		return isIn(v, len(j.m.Funcs))
	case trap:
		return v >= int(api.TrapNil) && v <= int(api.TrapDeep)
	case runLength:
		return v >= 0
	}
	return true
}

func (j *judge) hasShape(n, kind int) bool {
	return isIn(n, len(j.m.Shapes)) && j.m.Shapes[n].Kind == kind
}

// casesGood asks a select's cases, which are none if they are not all there.
func casesGood(cases []code.Case) bool {
	defaults := 0
	for _, c := range cases {
		switch c.Kind {
		case op.CaseRecv, op.CaseSend:
		case op.CaseDefault:
			defaults++
		default:
			return false
		}
	}
	return len(cases) > 0 && defaults <= 1
}

// take lets a select have its cases; false, if one of them is another's.
func (j *judge) take(first, count int) bool {
	own := j.taken[first : first+count]
	for k, taken := range own {
		if taken {
			return false
		}
		own[k] = true
	}
	return true
}
