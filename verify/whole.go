package verify

import (
	"gantline/api"
	"gantline/bits"
	"gantline/code"
	"gantline/head"
)

// The limits that api does not have.
const (
	maxShapes  = 1024
	maxGlobals = 256
	maxConsts  = 4096
	maxCases   = 1024
	maxCaught  = api.MaxWords - 2 // a closure's head and its function's number take a word each
)

// A Func's Result.
const (
	resultNone = iota
	resultNumber
	resultAddress
)

// listsGood is rule 1.
func listsGood(m code.Module) bool {
	if len(m.Shapes) > maxShapes || len(m.Globals) > maxGlobals || len(m.Consts) > maxConsts || len(m.Cases) > maxCases {
		return false
	}
	if len(m.Funcs) < 1 || len(m.Funcs) > api.MaxFuncs {
		return false
	}
	for _, s := range m.Shapes {
		if !head.Good(s) {
			return false
		}
	}
	for _, v := range m.Consts {
		if bits.Wrap(v) != v {
			return false
		}
	}
	return true
}

// mainGood is rule 2.
func mainGood(m code.Module) bool {
	if !isIn(m.Main, len(m.Funcs)) {
		return false
	}
	f := m.Funcs[m.Main]
	return f.Params == 0 && f.Caught == 0 && f.Result == resultNone
}

// funcGood is rule 3.
func funcGood(f code.Func) bool {
	return slotsGood(f) &&
		f.Result >= resultNone && f.Result <= resultAddress &&
		len(f.Code) >= 1 && len(f.Code) <= api.MaxCode && len(f.Maps) == len(f.Code)
}

func slotsGood(f code.Func) bool {
	if f.Params < 0 || f.Caught < 0 || f.Caught > maxCaught || f.Slots > api.MaxSlots || len(f.Kinds) != f.Slots {
		return false
	}
	// Params + Caught could wrap round; Slots, which is not below 0 here, less Caught cannot.
	return f.Params <= f.Slots-f.Caught
}

// isIn tells whether a list of so many has one of that number.
func isIn(n, count int) bool { return n >= 0 && n < count }
