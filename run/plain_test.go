package run_test

import (
	"math"
	"math/big"
	"slices"

	"gantline/api"
	"gantline/run"
	"gantline/vm"
)

// plainOne is One as the chapter's words have it, in numbers that know no bounds.
func plainOne(v *vm.Machine, pick int) bool {
	if e, _ := v.End(); e != api.EndNone {
		return false
	}
	number := new(big.Int).Abs(big.NewInt(int64(pick)))
	if pick == math.MinInt {
		number.SetInt64(0)
	}
	ids := v.Enabled()
	turns, p := new(big.Int).DivMod(number, big.NewInt(int64(len(ids)+1)), new(big.Int))
	if p.Int64() == int64(len(ids)) {
		return v.Collect()
	}
	id := ids[p.Int64()]
	return v.Do(id, int(turns.Mod(turns, big.NewInt(int64(v.Ways(id)))).Int64()))
}

// plainResult is what a machine tells behind so many steps.
func plainResult(v *vm.Machine, steps int) run.Result {
	r := run.Result{Out: v.Out(), Steps: steps, Collected: v.Heap().Cycle().Done(), Forced: v.Heap().Forced(), Acts: v.Acts()}
	r.End, r.Trap = v.End()
	return r
}

func plainRun(v *vm.Machine, script []int) run.Result {
	steps := 0
	for _, pick := range script {
		if plainOne(v, pick) {
			steps++
		}
	}
	return plainResult(v, steps)
}

// plainFollow is Follow as the chapter's words have it: it looks ahead of each instruction at whose turn it is.
func plainFollow(v *vm.Machine, order []int, gc int) (run.Result, int) {
	steps, acts, done := 0, 0, 0
	for at, fresh := 0, true; at < len(order) && steps < 100000; {
		id, way := order[at], 0
		if id > 999 {
			id, way = order[at]%1000, order[at]/1000
		}
		if !slices.Contains(v.Enabled(), id) {
			if fresh {
				break
			}
			at, fresh = at+1, true
			continue
		}
		v.Do(id, way%v.Ways(id))
		steps++
		fresh = false
		for range gc {
			v.Collect()
		}
		if n := len(v.Acts()); n > acts {
			acts, done = n, done+1
			at, fresh = at+1, true
		}
	}
	return plainResult(v, steps), done
}
