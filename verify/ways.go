package verify

import (
	"gantline/code"
	"gantline/fresh"
	"gantline/op"
)

// targets are the places that it names.
func (x item) targets() []int {
	var list []int
	for k, r := range x.roles {
		if r == target {
			list = append(list, x.operands[k])
		}
	}
	for _, c := range x.cases {
		list = append(list, c.Target)
	}
	return list
}

// staysInside is rule 7.
func (j *judge) staysInside(pc int, x item) bool {
	for _, place := range x.targets() {
		if !isIn(place, len(j.f.Code)) {
			return false
		}
	}
	return pc < len(j.f.Code)-1 || mayBeLast(x.Op)
}

func mayBeLast(number int) bool {
	switch number {
	case op.Jump, op.Return, op.Trap, op.Select:
		return true
	}
	return false
}

// goesBackToPolls is rule 8.
func (j *judge) goesBackToPolls(pc int, x item) bool {
	for _, place := range x.targets() {
		if place <= pc && j.f.Code[place].Op != op.Poll {
			return false
		}
	}
	return true
}

// barrierGood is rule 10: what fresh's Spare tells. That would go along all ways of the function anew for each write: so its states are asked once.
func (j *judge) barrierGood(pc int, i code.Instr) bool {
	if i.Op != op.Setn && i.Op != op.Putn || !j.f.Kinds[i.C] {
		return true
	}
	if j.states == nil {
		j.states = fresh.Sets(j.m, j.f)
	}
	object, value := j.states[pc][i.A], j.states[pc][i.C]
	return object.Own && value.Young && !mayOverwrite(i, object.Written)
}

// mayOverwrite tells whether what a setn or putn writes may have been written ahead of it.
func mayOverwrite(i code.Instr, written uint64) bool {
	if i.Op == op.Putn {
		// Which element it writes is not known.
		return written != 0
	}
	// Without its sign a field below 0 is a great one, and behind the last bit there is none.
	return written>>uint64(i.B)&1 == 1
}
