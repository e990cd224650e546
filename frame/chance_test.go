package frame_test

import (
	"math"
	"slices"
	"testing"

	"gantline/api"
	"gantline/code"
	"gantline/frame"
)

// dice tells numbers that look like chance, and are always the same.
type dice uint64

func (d *dice) below(n int) int {
	*d = *d*6364136223846793005 + 1442695040888963407
	return int(uint64(*d) >> 33 % uint64(n))
}

func (d *dice) one(of ...int) int { return of[d.below(len(of))] }

// number is below n as a rule, and sometimes at an edge.
func (d *dice) number(n int) int {
	if d.below(10) > 0 {
		return d.below(n)
	}
	return d.one(-1, -2, n, n+1, 63, 64, 65, math.MinInt, math.MaxInt)
}

// function has slots for its arguments as a rule.
func (d *dice) function() code.Func {
	f := code.Func{Params: d.below(4), Caught: d.below(4)}
	f.Slots = f.Params + f.Caught + d.below(5)
	if d.below(8) == 0 {
		f.Params, f.Caught = d.number(3), d.number(3)
	}
	if d.below(8) == 0 {
		f.Slots = d.number(6)
	}
	for range d.below(8) {
		f.Code = append(f.Code, code.Instr{Op: d.number(45), A: d.number(5), B: d.number(5), C: d.number(5), D: d.number(5)})
	}
	for range d.one(len(f.Code), len(f.Code), d.below(9)) {
		f.Maps = append(f.Maps, uint64(d.below(1<<31))<<33^uint64(d.below(1<<31)))
	}
	return f
}

func (d *dice) module() code.Module {
	var m code.Module
	for range d.below(8) {
		m.Funcs = append(m.Funcs, d.function())
	}
	return m
}

// args are as many as the function takes, as a rule.
func (d *dice) args(m code.Module, fn int) []int64 {
	count := d.below(8)
	if fn >= 0 && fn < len(m.Funcs) && d.below(12) > 0 {
		if n := m.Funcs[fn].Params + m.Funcs[fn].Caught; n >= 0 && n < 100 {
			count = n
		}
	}
	args := make([]int64, count)
	for k := range args {
		args[k] = d.word()
	}
	return args
}

func (d *dice) word() int64 {
	return int64(d.one(0, 0, 0, 1, -1, 64, 128, math.MaxInt, math.MinInt, d.below(1<<31)))
}

// pair is a stack and what it should be like.
type pair struct {
	s *frame.Stack
	p *plain
}

func (x pair) wantLike(t *testing.T, where string, m code.Module, d *dice) {
	t.Helper()
	wantFrames(t, where, x.s, x.p.list...)
	slot := d.number(7)
	if got, want := x.s.Get(slot), x.p.get(slot); got != want {
		t.Fatalf("%s: Get(%d): %d, want %d", where, slot, got, want)
	}
	i, ok := x.s.At(m)
	if want, is := x.p.at(m); i != want || ok != is {
		t.Fatalf("%s: At: %v, %v, want %v, %v", where, i, ok, want, is)
	}
	if got, want := x.s.Point(m), x.p.point(m); got != want {
		t.Fatalf("%s: Point: %v", where, got)
	}
	if got, want := x.s.Roots(m), x.p.roots(m); !slices.Equal(got, want) {
		t.Fatalf("%s: Roots: %v, want %v", where, got, want)
	}
}

// begin tries to begin a stack.
func (d *dice) begin(t *testing.T, m code.Module) (pair, api.Errno) {
	t.Helper()
	fn := d.number(len(m.Funcs) + 1)
	args := d.args(m, fn)
	p := &plain{}
	s, e := frame.New(m, fn, args)
	if want := p.call(m, fn, args); e != want || (s == nil) != (e != api.OK) {
		t.Fatalf("New(%d, %v) of %v: %v, want %v", fn, args, m, e, want)
	}
	return pair{s, p}, e
}

// step does one thing with both.
func (d *dice) step(t *testing.T, m code.Module, x pair) string {
	t.Helper()
	switch d.below(10) {
	case 0, 1, 2:
		fn := d.number(len(m.Funcs) + 1)
		args := d.args(m, fn)
		if e, want := x.s.Call(m, fn, args), x.p.call(m, fn, args); e != want {
			t.Fatalf("Call(%d, %v) of %v: %v, want %v", fn, args, m, e, want)
		}
		return "Call"
	case 3:
		if got, want := x.s.Return(), x.p.back(); got != want {
			t.Fatalf("Return: %v, want %v", got, want)
		}
		return "Return"
	case 4, 5, 6:
		pc := d.number(7)
		x.s.Jump(pc)
		x.p.jump(pc)
		return "Jump"
	}
	slot, v := d.number(7), d.word()
	x.s.Set(slot, v)
	x.p.set(slot, v)
	return "Set"
}

// P13.1, P13.2: against the plain reckoning, over many stacks of many modules.
func TestChance(t *testing.T) {
	d := dice(13)
	for range 3000 {
		m := d.module()
		x, e := d.begin(t, m)
		if e != api.OK {
			continue
		}
		for range 60 {
			where := d.step(t, m, x)
			x.wantLike(t, where, m, &d)
			if d.below(20) == 0 {
				x.wantLike(t, "another module", d.module(), &d)
			}
		}
	}
}

// P13.1: as many calls as there may be, again and again, against the plain reckoning.
func TestChanceDeep(t *testing.T) {
	d := dice(14)
	m := yard()
	x := pair{begun(t, m, two), &plain{}}
	x.p.call(m, two, nil)
	limits := 0
	for n := range 6000 {
		fn := d.below(functions)
		args := argsOf(m, fn)
		if d.below(10) < []int{9, 3}[n/1000%2] {
			e, want := x.s.Call(m, fn, args), x.p.call(m, fn, args)
			if e != want {
				t.Fatalf("Call %d: %v, want %v", n, e, want)
			}
			if e == api.ELIMIT {
				limits++
			}
		} else if got, want := x.s.Return(), x.p.back(); got != want {
			t.Fatalf("Return %d: %v, want %v", n, got, want)
		}
		if x.s.Depth() != len(x.p.list) {
			t.Fatalf("Depth %d, want %d", x.s.Depth(), len(x.p.list))
		}
		if n%50 == 0 {
			x.wantLike(t, "deep", m, &d)
		}
	}
	if limits < 100 {
		t.Errorf("%d calls too many", limits)
	}
}

// The stacks are such that much is told.
func TestChanceIsRich(t *testing.T) {
	d, begun, refused, calls, points, roots := dice(13), 0, 0, 0, 0, 0
	for range 500 {
		m := d.module()
		x, e := d.begin(t, m)
		if e != api.OK {
			refused++
			continue
		}
		begun++
		for range 60 {
			d.step(t, m, x)
			if x.s.Depth() > 2 {
				calls++
			}
			if x.s.Point(m) {
				points++
			}
			roots += len(x.s.Roots(m))
		}
	}
	if begun < 200 || refused < 100 || calls < 3000 || points < 1000 || roots < 10000 {
		t.Errorf("%d begun, %d refused, %d of many calls, %d points, %d roots", begun, refused, calls, points, roots)
	}
}
