package verify

import (
	"gantline/code"
	"gantline/op"
)

// role is what an operand stands for.
type role uint8

const (
	free         role = iota // not named, or nothing that is asked by its operand alone: a field's number, a select's cases
	anySlot                  // of either kind
	numberSlot               // of kind false
	addressSlot              // of kind true
	slotOrNone               // -1 may stand there
	numberOrNone             // there too
	runStart                 // the first of a run of slots: the whole run is asked, see run
	runLength                // how many slots a run has
	constant
	plainShape
	arrayShape
	channelShape
	global
	function
	trap
	target // where it may go on
)

// roles are those of A, B, C, D.
type roles [4]role

// rolesOf is what chapter 9's table says of an Op; false, if it has none such.
func rolesOf(number int) (roles, bool) {
	if r, ok := rolesOfSlots(number); ok {
		return r, true
	}
	if r, ok := rolesOfWays(number); ok {
		return r, true
	}
	return rolesOfThings(number)
}

// rolesOfSlots: of what is done with slots alone.
func rolesOfSlots(number int) (roles, bool) {
	switch number {
	case op.Const:
		return roles{numberSlot, constant}, true
	case op.Move:
		return roles{anySlot, anySlot}, true
	case op.Nil:
		return roles{addressSlot}, true
	case op.Add, op.Sub, op.Mul, op.Div, op.Mod, op.And, op.Or, op.Xor, op.Shl, op.Shr, op.Lt, op.Le, op.Eq:
		return roles{numberSlot, numberSlot, numberSlot}, true
	case op.Same:
		return roles{numberSlot, addressSlot, addressSlot}, true
	case op.Not:
		return roles{numberSlot, numberSlot}, true
	case op.Print:
		return roles{numberSlot}, true
	}
	return roles{}, false
}

// rolesOfWays: of what says who goes on, and where.
func rolesOfWays(number int) (roles, bool) {
	switch number {
	case op.Jump:
		return roles{target}, true
	case op.If:
		return roles{numberSlot, target}, true
	case op.Call:
		return roles{slotOrNone, function, runStart}, true
	case op.Callc:
		return roles{slotOrNone, addressSlot, runStart, runLength}, true
	case op.Return:
		return roles{slotOrNone}, true
	case op.Go:
		return roles{function, runStart}, true
	case op.Goc:
		return roles{addressSlot, runStart, runLength}, true
	case op.Select, op.Poll:
		return roles{}, true
	case op.Trap:
		return roles{trap}, true
	}
	return roles{}, false
}

// rolesOfThings: of what makes, reads and writes objects, globals, channels.
func rolesOfThings(number int) (roles, bool) {
	switch number {
	case op.New:
		return roles{addressSlot, plainShape}, true
	case op.Array:
		return roles{addressSlot, arrayShape, numberSlot}, true
	case op.Get:
		return roles{anySlot, addressSlot, free}, true
	case op.Set, op.Setn:
		return roles{addressSlot, free, anySlot}, true
	case op.At:
		return roles{anySlot, addressSlot, numberSlot}, true
	case op.Put, op.Putn:
		return roles{addressSlot, numberSlot, anySlot}, true
	case op.Len:
		return roles{numberSlot, addressSlot}, true
	case op.Load:
		return roles{anySlot, global}, true
	case op.Store:
		return roles{global, anySlot}, true
	case op.Closure:
		return roles{addressSlot, function, runStart}, true
	case op.Chan:
		return roles{addressSlot, channelShape, numberSlot}, true
	case op.Send:
		return roles{addressSlot, anySlot}, true
	case op.Recv:
		return roles{slotOrNone, addressSlot, numberOrNone}, true
	case op.Close:
		return roles{addressSlot}, true
	}
	return roles{}, false
}

// item is an instruction with all that it names.
type item struct {
	code.Instr
	operands [4]int
	roles    roles
	run      run
	cases    []code.Case
}

// itemOf is of an Op that is one, in a module for which rules 1 to 3 hold.
func itemOf(m code.Module, i code.Instr, r roles) item {
	return item{i, [4]int{i.A, i.B, i.C, i.D}, r, runOf(m, i), casesOf(m, i)}
}

// run is the slots that an instruction hands on, one behind the other.
type run struct {
	first, count int
	kinds        []bool // what they must be: of a closure's arguments that is asked when it is called
}

// runOf is an instruction's run: empty, if the function that says how long it is is not there.
func runOf(m code.Module, i code.Instr) run {
	switch i.Op {
	case op.Call:
		return argumentsOf(m, i.B, i.C)
	case op.Go:
		return argumentsOf(m, i.A, i.B)
	case op.Closure:
		return caughtOf(m, i.B, i.C)
	case op.Callc:
		return run{first: i.C, count: i.D}
	case op.Goc:
		return run{first: i.B, count: i.C}
	}
	return run{}
}

func argumentsOf(m code.Module, n, first int) run {
	if !isIn(n, len(m.Funcs)) {
		return run{}
	}
	f := m.Funcs[n]
	return run{first, f.Params, f.Kinds[:f.Params]}
}

func caughtOf(m code.Module, n, first int) run {
	if !isIn(n, len(m.Funcs)) {
		return run{}
	}
	f := m.Funcs[n]
	return run{first, f.Caught, f.Kinds[f.Params : f.Params+f.Caught]}
}

// casesOf are a select's cases, none if they are not all there.
func casesOf(m code.Module, i code.Instr) []code.Case {
	// A + B could wrap round; how many there are less A cannot, as A is not below 0.
	if i.Op != op.Select || i.A < 0 || i.B < 0 || i.B > len(m.Cases)-i.A {
		return nil
	}
	return m.Cases[i.A : i.A+i.B]
}
