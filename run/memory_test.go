package run_test

import (
	"math"
	"slices"
	"testing"

	"gantline/code"
	"gantline/run"
	"gantline/vm"
)

// roomy is a list with spare room that holds numbers, too.
func roomy(list []int) []int {
	return append(slices.Clone(list), 77, -77, math.MinInt)[:len(list)]
}

// R4: script, order and bytes are not changed, spare room included; nor is the module.
func TestUnchanged(t *testing.T) {
	for _, c := range modules() {
		m, d := c.m, dice(4)
		script, order, b := roomy(d.script(200, 30)), roomy(d.possible(t, m, 8, 60)), append(code.Encode(m), 1, 2, 3)
		spare := m
		spare.Consts = append(slices.Clone(m.Consts), 1, 2, 3)
		m.Consts = spare.Consts[:len(m.Consts)]
		wasScript, wasOrder, wasBytes, wasModule := slices.Clone(script[:cap(script)]), slices.Clone(order[:cap(order)]), slices.Clone(b), code.Encode(spare)
		run.Run(m, 8, script)
		run.Bytes(b[:len(b)-3], 8, script)
		run.Follow(m, 8, order, 2)
		if !slices.Equal(script[:cap(script)], wasScript) || !slices.Equal(order[:cap(order)], wasOrder) || !slices.Equal(b, wasBytes) || !slices.Equal(code.Encode(spare), wasModule) {
			t.Errorf("%s: something that was handed in is changed", c.name)
		}
	}
}

// spoil writes into all that is answered, spare room included.
func spoil(r run.Result) {
	for n := range r.Out[:cap(r.Out)] {
		r.Out[:cap(r.Out)][n] = -5
	}
	for n := range r.Acts[:cap(r.Acts)] {
		r.Acts[:cap(r.Acts)][n] = vm.Act{ID: -5}
	}
}

// R4, R5: what is answered is new memory, and what a call answers hangs on its arguments alone.
func TestNewMemory(t *testing.T) {
	for _, c := range modules() {
		m, d := c.m, dice(5)
		script, order := d.script(300, 30), d.possible(t, m, 8, 60)
		calls := []func() run.Result{
			func() run.Result { r, _ := run.Run(m, 8, script); return r },
			func() run.Result { r, _ := run.Bytes(code.Encode(m), 8, script); return r },
			func() run.Result { r, _, _ := run.Follow(m, 8, order, 1); return r },
		}
		for n, call := range calls {
			first, second := call(), call()
			want := whole(first)
			spoil(first)
			if third := call(); whole(second) != want || whole(third) != want {
				t.Errorf("%s, call %d: %s, %s, want %s", c.name, n, whole(second), whole(third), want)
			}
		}
	}
}

// R4: neither the module nor the lists are kept: what is spoiled behind a call is not seen in what it answered.
func TestNotKept(t *testing.T) {
	m, script := talkers(2), ones(0, 99)
	r, _ := run.Run(m, 8, script)
	want := whole(r)
	for n := range m.Funcs {
		clear(m.Funcs[n].Code)
	}
	clear(m.Consts)
	clear(script)
	if got := whole(r); got != want || len(r.Acts) == 0 {
		t.Errorf("%s, want %s", got, want)
	}
}
