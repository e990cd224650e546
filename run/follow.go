package run

import (
	"gantline/api"
	"gantline/code"
	"gantline/vm"
)

const (
	maxCollects     = 9      // behind an instruction
	maxInstructions = 100000 // of a Follow
	wayUnit         = 1000   // what a way is told by, in a number that tells a goroutine too
)

// Follow runs one in the order of what others can tell.
func Follow(m code.Module, spans int, order []int, gc int) (Result, int, api.Errno) {
	if gc < 0 || gc > maxCollects {
		return Result{}, 0, api.EARG
	}
	v, e := vm.New(m, spans)
	if e != api.OK {
		return Result{}, 0, e
	}
	f := follower{machine: v, gc: gc}
	done := f.follow(order)
	return resultOf(v, f.steps), done, api.OK
}

// follower is a machine that is led by what others can tell.
type follower struct {
	machine *vm.Machine
	gc      int // how many Collects are behind each instruction
	steps   int // how many instructions were done
	acts    int // how many Acts there are
}

// follow goes through an order, as far as it can be followed: how many of it were done with an Act.
func (f *follower) follow(order []int) int {
	done := 0
	for _, number := range order {
		id, way := parts(number)
		if f.steps == maxInstructions || f.machine.Ways(id) == 0 {
			break
		}
		if f.toAct(id, way) {
			done++
		}
	}
	return done
}

// parts are the goroutine and the way that a number of an order tells.
func parts(number int) (int, int) {
	if number < wayUnit {
		// One below 0 is no goroutine's: it is not taken modulo anything.
		return number, 0
	}
	return number % wayUnit, number / wayUnit
}

// toAct lets a goroutine go on till an Act is done; false, if it comes to none.
func (f *follower) toAct(id, way int) bool {
	for f.steps < maxInstructions && goOn(f.machine, id, way) {
		f.steps++
		f.collect()
		if acts := len(f.machine.Acts()); acts > f.acts {
			f.acts = acts
			return true
		}
	}
	return false
}

func (f *follower) collect() {
	for range f.gc {
		f.machine.Collect()
	}
}
