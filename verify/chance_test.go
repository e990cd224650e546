package verify_test

import (
	"math"
	"strconv"
	"testing"

	"gantline/code"
	"gantline/fresh"
	"gantline/head"
	"gantline/live"
	"gantline/verify"
)

// dice tells numbers that look like chance, and are always the same.
type dice uint64

func (d *dice) below(n int) int {
	*d = *d*6364136223846793005 + 1442695040888963407
	return int(uint64(*d) >> 33 % uint64(n))
}

func (d *dice) one(of ...int) int { return of[d.below(len(of))] }

// wild is a number at some edge.
func (d *dice) wild() int {
	if d.below(3) > 0 {
		return d.below(16) - 3
	}
	return d.one(-1, -2, 63, 64, 65, 1024, 4096, math.MinInt, math.MaxInt, 1<<32, 1<<62, -1<<62)
}

// headed is a function of which all but the code is said.
func (d *dice) headed() code.Func {
	f := code.Func{Slots: d.below(9), Result: d.below(3)}
	f.Params = d.below(min(f.Slots, 3) + 1)
	if d.below(3) == 0 {
		f.Caught = d.below(min(f.Slots-f.Params, 3) + 1)
	}
	for range f.Slots {
		f.Kinds = append(f.Kinds, d.below(2) == 0)
	}
	return f
}

// instr is one whose operands are mostly such as their words ask for.
func (d *dice) instr(m code.Module, f code.Func, op int) code.Instr {
	i := code.Instr{Op: op}
	for k, word := range words(op) {
		v := d.below(max(f.Slots, 1))
		switch word {
		case "n?", "s?":
			if d.below(3) == 0 {
				v = -1
			}
		case "K":
			v = d.below(len(m.Consts))
		case "G":
			v = d.below(max(len(m.Globals), 1))
		case "F":
			v = d.below(len(m.Funcs))
		case "T":
			v = 1 + d.below(6)
		case "0", "1", "3":
			v = int(word[0] - '0')
		case ">":
			v = d.below(len(f.Code))
		case "#":
			v = d.below(4)
		case ".":
			v = d.below(3)
		}
		*operand(&i, k) = v
	}
	return i
}

// choice is a select of cases that are new, and mostly such as they should be.
func (d *dice) choice(m *code.Module, f code.Func) code.Instr {
	i := choose(len(m.Cases), 1+d.below(3))
	for range i.B {
		slot := func() int { return d.below(max(f.Slots, 1)) }
		m.Cases = append(m.Cases, code.Case{Kind: d.one(0, 0, 1, 1, 2), Chan: slot(), Val: slot(), Target: d.below(len(f.Code))})
	}
	return i
}

// lay finds an instruction that is well at a place; after many throws it is what stood there.
func (d *dice) lay(m *code.Module, n, pc int) {
	f := &m.Funcs[n]
	for range 60 {
		op, cases := d.below(45), len(m.Cases)
		if d.below(3) == 0 {
			op = d.one(25, 25, 25, 28, 28, 31, 20, 41, 36)
		}
		i := d.instr(*m, *f, op)
		if op == 41 {
			i = d.choice(m, *f)
		}
		w := &found{m: *m}
		spot{w, n, pc, *f, i}.ask()
		if len(w.list) == 0 {
			f.Code[pc] = i
			return
		}
		m.Cases = m.Cases[:cases]
	}
}

// good is a module in which nothing, or little, is wrong.
func (d *dice) good() code.Module {
	m := code.Module{
		Shapes:  []head.Shape{{Fields: 2, Map: 3}, {Kind: 1, Map: 1}, {Kind: 2}, {Kind: 3}},
		Globals: []bool{true, false, true},
		Consts:  []int64{-1 << 62, 7},
		Funcs:   []code.Func{{Slots: 6, Kinds: []bool{false, true, true, true, false, true}}},
	}
	for range d.below(4) {
		m.Funcs = append(m.Funcs, d.headed())
	}
	for n := range m.Funcs {
		f := &m.Funcs[n]
		for range d.below(14) {
			f.Code = append(f.Code, poll())
		}
		// It stands there for a return, till that is laid.
		f.Code = append(f.Code, code.Instr{Op: 44, A: 1})
		f.Maps = make([]uint64, len(f.Code))
		for pc := range f.Code {
			if d.below(5) > 0 {
				d.lay(&m, n, pc)
			}
		}
		d.unfence(m, n)
	}
	return mapped(m)
}

// unfence takes barriers away where they may be spared: somewhere else seldom.
func (d *dice) unfence(m code.Module, n int) {
	f := m.Funcs[n]
	if a, c := d.below(max(f.Slots, 1)), d.below(max(f.Slots, 1)); f.Slots > 0 && f.Kinds[a] && f.Kinds[c] && len(f.Code) > 4 {
		f.Code[1], f.Code[2], f.Code[3] = made(a), made(c), code.Instr{Op: 28, A: a, C: c}
	}
	for pc, i := range f.Code {
		if (i.Op == 28 || i.Op == 31) && (fresh.Spare(m, f, pc) || d.below(12) == 0) {
			f.Code[pc].Op++
		}
	}
}

// spoil changes something, mostly in an instruction; maps are laid anew, if it is not one of them.
func (d *dice) spoil(m code.Module) code.Module {
	f := &m.Funcs[d.below(len(m.Funcs))]
	v := d.wild()
	if len(f.Code) == 0 || len(f.Code) != len(f.Maps) {
		return m
	}
	pc := d.below(len(f.Code))
	switch d.below(16) {
	case 0:
		f.Code[pc].Op = d.one(d.below(45), -1, 45, v)
	case 1:
		f.Maps[pc] ^= 1 << d.below(12)
		return m
	case 2:
		f.Code[pc] = d.instr(m, *f, d.below(45))
	case 3:
		f.Kinds = append([]bool{}, f.Kinds...)
		if len(f.Kinds) > 0 {
			f.Kinds[d.below(len(f.Kinds))] = d.below(2) == 0
		}
	case 4:
		f.Code[pc] = choose(d.below(len(m.Cases)+1), d.below(3))
	case 5, 6, 7:
		if len(m.Cases) > 0 {
			c := &m.Cases[d.below(len(m.Cases))]
			*[]*int{&c.Kind, &c.Chan, &c.Val, &c.Target}[d.below(4)] = v
		}
	case 8:
		d.spoilWhole(&m, f, v)
	default:
		i := &f.Code[pc]
		if named := len(words(i.Op)); named > 0 {
			*operand(i, d.below(named)) = v
		}
	}
	return m
}

func (d *dice) spoilWhole(m *code.Module, f *code.Func, v int) {
	switch d.below(10) {
	case 0:
		m.Main = v
	case 1:
		m.Consts[0] = int64(v)
	case 2:
		m.Shapes[d.below(4)].Kind = v
	case 3:
		m.Shapes[d.below(4)].Map = uint64(v)
	case 4:
		*[]*int{&f.Params, &f.Caught, &f.Slots, &f.Result}[d.below(4)] = v
	case 5:
		f.Kinds = append(f.Kinds, true)
	case 6:
		f.Code, f.Maps = append(f.Code, jump(v)), append(f.Maps, 0)
	case 7:
		m.Globals = m.Globals[:d.below(3)]
	case 8:
		m.Funcs = m.Funcs[:1+d.below(len(m.Funcs))]
	case 9:
		f.Code, f.Maps = f.Code[:len(f.Code)-1], f.Maps[:len(f.Maps)-d.below(2)]
	}
}

// relay lays the maps anew where there are as many as instructions; elsewhere that is left wrong.
func relay(m code.Module) code.Module {
	for n, f := range m.Funcs {
		if len(f.Maps) == len(f.Code) {
			m.Funcs[n].Maps = live.Maps(m, f)
		}
	}
	return m
}

// P12.1: against the plain reckoning, over many modules; each rule is the first that is broken often enough, at many a place.
func TestChance(t *testing.T) {
	d := dice(12)
	var seen [11]int
	places := map[verify.Fault]int{}
	for n := range 12000 {
		m := d.good()
		for range d.one(0, 1, 1, 1, 2, 3) {
			m = d.spoil(m)
			if d.below(3) > 0 {
				m = relay(m)
			}
		}
		want := plainCheck(m)
		got, ok := verify.Check(m)
		if got != want || ok != (want == verify.Fault{}) || verify.Module(m) != ok {
			t.Fatalf("module %d: %v, %v, want %v: %s, cases %v", n, got, ok, want, show(m, max(want.Func, 0)), m.Cases)
		}
		seen[want.Rule]++
		places[want]++
	}
	for rule, count := range seen {
		if count < 60 {
			t.Errorf("rule %d: %d of %v", rule, count, seen)
		}
	}
	if len(places) < 150 {
		t.Errorf("%d places", len(places))
	}
}

// R1: of bytes that are some module Check always says something, and says it again.
func TestChanceWild(t *testing.T) {
	d := dice(120)
	for n := range 3000 {
		m := code.Module{Main: d.below(2)}
		for range d.below(4) {
			m.Cases = append(m.Cases, code.Case{Kind: d.below(4), Chan: d.wild(), Val: d.wild(), Target: d.wild()})
		}
		for range 1 + d.below(3) {
			f := d.headed()
			for range 1 + d.below(5) {
				f.Code = append(f.Code, code.Instr{Op: d.below(46), A: d.wild(), B: d.wild(), C: d.wild(), D: d.wild()})
			}
			f.Maps = make([]uint64, len(f.Code))
			m.Funcs = append(m.Funcs, f)
		}
		m.Funcs[0].Params, m.Funcs[0].Caught, m.Funcs[0].Result = 0, 0, 0
		wantFault(t, "module "+strconv.Itoa(n), m, plainCheck(m))
	}
}
