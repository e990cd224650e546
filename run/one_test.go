package run_test

import (
	"fmt"
	"math"
	"testing"

	"gantline/api"
	"gantline/chans"
	"gantline/code"
	"gantline/run"
	"gantline/vm"
)

// picks are all small numbers, and the edges.
func picks() []int {
	list := []int{math.MinInt, math.MinInt + 1, math.MinInt + 2, math.MaxInt, math.MaxInt - 1, 1 << 31, 1 << 32, 1<<32 + 1, -1 << 31, -1 << 32, -1<<32 - 1}
	for pick := -50; pick <= 50; pick++ {
		list = append(list, pick)
	}
	return list
}

// wantOne wants a pick to be just what is done to a machine that is the same.
func wantOne(t *testing.T, where string, make func() *vm.Machine, pick int, does func(v *vm.Machine) bool) {
	t.Helper()
	got, want := make(), make()
	if !run.One(got, pick) || !does(want) {
		t.Fatalf("%s: One(%d) is refused", where, pick)
	}
	if picture(got) != picture(want) {
		t.Errorf("%s: One(%d) does something else: Acts %v, want %v; phase %d, want %d", where, pick, got.Acts(), want.Acts(), got.Heap().Cycle().Phase(), want.Heap().Cycle().Phase())
	}
}

func collects(v *vm.Machine) bool { return v.Collect() }

// wayOf does a goroutine's next instruction in that way.
func wayOf(id, way int) func(v *vm.Machine) bool {
	return func(v *vm.Machine) bool { return v.Do(id, way) }
}

// P18.1: with one enabled, every other pick is Collect; the sign does not count; the least number is 0.
func TestOneOfOne(t *testing.T) {
	make := func() *vm.Machine { return begun(t, printer(), 8) }
	for _, pick := range []int{0, 2, 4, -2, -4, 100, math.MinInt, math.MaxInt - 1, math.MinInt + 2} {
		wantOne(t, "one", make, pick, wayOf(1, 0))
	}
	for _, pick := range []int{1, 3, -1, -3, 99, math.MaxInt, math.MinInt + 1} {
		wantOne(t, "one", make, pick, collects)
	}
}

// P18.1: with several enabled, the p-th of them, in the way that what is left tells.
func TestOneOfSeveral(t *testing.T) {
	make := func() *vm.Machine { return resting(t, 3) }
	for _, c := range []struct{ pick, id, way int }{
		{0, 1, 0}, {5, 1, 1}, {10, 1, 2}, {15, 1, 0}, {20, 1, 1}, {-5, 1, 1}, {-10, 1, 2}, {-15, 1, 0}, {math.MinInt, 1, 0},
		{1, 2, 0}, {6, 2, 0}, {-1, 2, 0}, {-6, 2, 0}, {2, 3, 0}, {-2, 3, 0}, {12, 3, 0}, {3, 4, 0}, {-3, 4, 0}, {8, 4, 0},
		// 2^63 - 1 is 5 * 1844674407370955161 + 2
		{math.MaxInt, 3, 0}, {math.MinInt + 1, 3, 0}, {math.MaxInt - 2, 1, 1}, {math.MinInt + 3, 1, 1},
	} {
		wantOne(t, "several", make, c.pick, wayOf(c.id, c.way))
	}
	for _, pick := range []int{4, 9, 14, -4, -9, math.MaxInt - 3, math.MinInt + 4} {
		wantOne(t, "several", make, pick, collects)
	}
}

// P18.1: each way of a select, over all its cases and partners.
func TestOneOfSelect(t *testing.T) {
	make := func() *vm.Machine {
		v := begun(t, chooser(), 8)
		does(t, v, 1, 16)
		return v
	}
	if v := make(); v.Ways(1) != 6 || len(v.Enabled()) != 6 {
		t.Fatalf("%d ways, enabled: %v", v.Ways(1), v.Enabled())
	}
	seen := map[string]int{}
	for way := range 20 {
		wantOne(t, "select", make, 7*way, wayOf(1, way%6))
		wantOne(t, "select", make, -7*way, wayOf(1, way%6))
		v := make()
		run.One(v, 7*way)
		acts := v.Acts()
		seen[fmt.Sprint(acts[len(acts)-1].Way)]++
	}
	if len(seen) != 6 {
		t.Errorf("ways that were seen: %v", seen)
	}
}

// P18.1: all picks at many moments, against the chapter's words.
func TestOneLikePlain(t *testing.T) {
	for _, c := range modules() {
		for _, gc := range []int{0, 1, 3} {
			for steps := 0; steps < 40; steps += 1 + steps/8 {
				make := func() *vm.Machine {
					v := begun(t, c.m, 8)
					for n := range steps {
						plainOne(v, n*(n+3)/2)
						for range gc {
							v.Collect()
						}
					}
					return v
				}
				for n, pick := range picks() {
					if (n+steps)%7 > 0 {
						continue
					}
					got, want := make(), make()
					if a, b := run.One(got, pick), plainOne(want, pick); a != b || picture(got) != picture(want) {
						t.Fatalf("%s: behind %d steps: One(%d): %v, want %v", c.name, steps, pick, a, b)
					}
				}
			}
		}
	}
}

// P18.1: with nobody enabled, and no end, each pick is Collect. (Somebody took out of the channel, past the machine, what main would have got.)
func TestOneOfNone(t *testing.T) {
	m := module(nil, fn(0, 0, "na", num(0, 1), in(37, 1, pipe, 0), in(38, 1, 0), recv(0, 1), show(0), end()))
	make := func() *vm.Machine {
		v := begun(t, m, 8)
		does(t, v, 1, 3)
		chans.Pop(v.Heap(), v.Stack(1)[0])
		if e, _ := v.End(); e != api.EndNone || len(v.Enabled()) > 0 {
			t.Fatalf("End %d, enabled: %v", e, v.Enabled())
		}
		return v
	}
	for _, pick := range picks() {
		wantOne(t, "none", make, pick, collects)
	}
}

// P18.1: picks that are Collect go through a whole collection, and begin the next one.
func TestOneCollects(t *testing.T) {
	v := begun(t, mixer(), 8)
	does(t, v, 1, 5)
	var phases []int
	for range 12 {
		if !run.One(v, -3-4*len(phases)) {
			t.Fatalf("One is refused")
		}
		phases = append(phases, v.Heap().Cycle().Phase())
	}
	if got := fmt.Sprint(phases); got != "[1 1 1 1 2 2 3 3 0 1 1 1]" || len(v.Acts()) != 3 {
		t.Errorf("phases: %s, %d Acts", got, len(v.Acts()))
	}
}

// P18.1: behind each end One is false, and nothing is changed.
func TestOneBehindEnd(t *testing.T) {
	for _, c := range []struct {
		name string
		m    code.Module
		end  api.End
	}{
		{"exit", printer(), api.EndExit}, {"exit among others", talkers(2), api.EndExit}, {"trap", faller(), api.EndTrap}, {"deadlock", waiter(), api.EndDeadlock},
		{"deadlock at once", stuck(), api.EndDeadlock}, {"memory", hoarder(), api.EndMemory},
	} {
		v := begun(t, c.m, 8)
		for range 10000 {
			if !run.One(v, 0) {
				break
			}
		}
		if e, _ := v.End(); e != c.end {
			t.Fatalf("%s: End %d, want %d", c.name, e, c.end)
		}
		before := picture(v)
		for _, pick := range picks() {
			if run.One(v, pick) {
				t.Errorf("%s: One(%d) is done", c.name, pick)
			}
		}
		if picture(v) != before {
			t.Errorf("%s: something is changed", c.name)
		}
	}
}
