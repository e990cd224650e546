package verify

import (
	"gantline/code"
	"gantline/fresh"
	"gantline/live"
)

// judge goes through a function's instructions, in a module for which rules 1 to 3 hold.
type judge struct {
	m      code.Module
	f      code.Func
	maps   []uint64
	states [][]fresh.State // nil till a write asks for them
	taken  []bool          // which of the module's cases a select has named: it goes on from function to function
}

func judgeOf(m code.Module, f code.Func, taken []bool) *judge {
	return &judge{m: m, f: f, maps: live.Maps(m, f), taken: taken}
}

// broken is the first rule that an instruction breaks. Each rule leans on those ahead of it: what they ask for is there.
func (j *judge) broken(pc int) int {
	i := j.f.Code[pc]
	r, ok := rolesOf(i.Op)
	if !ok {
		return ruleSlots
	}
	x := itemOf(j.m, i, r)
	switch {
	case !j.slotsThere(x):
		return ruleSlots
	case !j.namedThere(x):
		return ruleNamed
	case !j.kindsFit(x):
		return ruleKinds
	case !j.staysInside(pc, x):
		return ruleWays
	case !j.goesBackToPolls(pc, x):
		return rulePolls
	case j.f.Maps[pc] != j.maps[pc]:
		return ruleMaps
	case !j.barrierGood(pc, i):
		return ruleBarriers
	}
	return noRule
}
