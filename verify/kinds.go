package verify

import (
	"gantline/code"
	"gantline/op"
)

// kindsFit is rule 6.
func (j *judge) kindsFit(x item) bool {
	for k, r := range x.roles {
		if !j.kindFits(r, x.operands[k]) {
			return false
		}
	}
	for _, c := range x.cases {
		if c.Kind != op.CaseDefault && !j.kindFits(addressSlot, c.Chan) {
			return false
		}
	}
	for k, kind := range x.run.kinds {
		if j.f.Kinds[x.run.first+k] != kind {
			return false
		}
	}
	return j.pairFits(x.Instr)
}

func (j *judge) kindFits(r role, v int) bool {
	switch r {
	case numberSlot:
		return !j.f.Kinds[v]
	case numberOrNone:
		return v == op.None || !j.f.Kinds[v]
	case addressSlot:
		return j.f.Kinds[v]
	}
	return true
}

// pairFits asks a slot whose kind hangs on something else that is named.
func (j *judge) pairFits(i code.Instr) bool {
	switch i.Op {
	case op.Move:
		return j.f.Kinds[i.A] == j.f.Kinds[i.B]
	case op.Load:
		return j.f.Kinds[i.A] == j.m.Globals[i.B]
	case op.Store:
		return j.f.Kinds[i.B] == j.m.Globals[i.A]
	case op.Call:
		return i.A == op.None || j.resultFits(j.m.Funcs[i.B].Result, i.A)
	case op.Return:
		if i.A == op.None {
			return j.f.Result == resultNone
		}
		return j.resultFits(j.f.Result, i.A)
	}
	return true
}

// resultFits tells whether a slot can hold a Result: nothing is held by none.
func (j *judge) resultFits(result, slot int) bool {
	switch result {
	case resultNumber:
		return !j.f.Kinds[slot]
	case resultAddress:
		return j.f.Kinds[slot]
	}
	return false
}
