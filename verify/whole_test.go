package verify_test

import (
	"math"
	"slices"
	"strconv"
	"testing"

	"gantline/api"
	"gantline/code"
	"gantline/head"
	"gantline/verify"
)

// ofNone is a fault of the module.
func ofNone(rule int) verify.Fault { return verify.Fault{Func: -1, PC: -1, Rule: rule} }

// ofFunc is a fault of a whole function.
func ofFunc(n int) verify.Fault { return verify.Fault{Func: n, PC: -1, Rule: 3} }

// P12.1: the examples.
func TestExamples(t *testing.T) {
	m := code.Module{Funcs: []code.Func{{Code: []code.Instr{{Op: 22, A: -1}}, Maps: []uint64{0}}}}
	wantGood(t, "return -1", m)
	m.Funcs[0].Maps[0] = 1
	wantFault(t, "with Maps (1)", m, verify.Fault{Func: 0, PC: 0, Rule: 9})
}

// P12.1, rule 1: a module needs a function.
func TestNothing(t *testing.T) {
	wantFault(t, "the empty module", code.Module{}, ofNone(1))
	wantFault(t, "empty lists", code.Module{Funcs: []code.Func{}, Consts: []int64{}}, ofNone(1))
	m := yard()
	m.Funcs = nil
	wantFault(t, "all but functions", m, ofNone(1))
}

// P12.1, rule 1: how many there may be.
func TestListLimits(t *testing.T) {
	for _, c := range []struct {
		name  string
		limit int
		lay   func(m *code.Module, count int)
	}{
		{"shapes", 1024, func(m *code.Module, count int) { m.Shapes = make([]head.Shape, count) }},
		{"globals", 256, func(m *code.Module, count int) { m.Globals = make([]bool, count) }},
		{"constants", 4096, func(m *code.Module, count int) { m.Consts = make([]int64, count) }},
		{"cases", 1024, func(m *code.Module, count int) { m.Cases = make([]code.Case, count) }},
		{"functions", api.MaxFuncs, func(m *code.Module, count int) { m.Funcs = slices.Repeat(m.Funcs[3:4], count) }},
	} {
		for count := 1; count <= 2*c.limit; count *= 2 {
			for _, n := range []int{count - 1, count, count + 1} {
				m := yard()
				c.lay(&m, n)
				want := verify.Fault{}
				if n > c.limit || c.name == "functions" && n == 0 {
					want = ofNone(1)
				}
				wantFault(t, strconv.Itoa(n)+" "+c.name, m, want)
			}
		}
	}
}

// P12.1, rule 1: shapes that are not Good, wherever they stand, though nobody names them.
func TestShapes(t *testing.T) {
	for _, s := range []head.Shape{{Kind: -1}, {Kind: 4}, {Kind: math.MinInt}, {Kind: math.MaxInt}, {Fields: -1}, {Fields: 64}, {Fields: math.MinInt}, {Fields: 1, Map: 2}, {Map: 1}, {Fields: 63, Map: 1 << 63}, {Kind: 2, Fields: 64}, {Kind: 2, Map: 1}, {Kind: 1, Fields: 1}, {Kind: 1, Map: 2}, {Kind: 3, Fields: -1}, {Kind: 3, Map: 3}, {Kind: 3, Map: math.MaxUint64}} {
		for _, at := range []int{0, 3, 4} {
			m := yard()
			m.Shapes = slices.Insert(m.Shapes, at, s)
			wantFault(t, "a shape", m, ofNone(1))
		}
	}
	for _, s := range []head.Shape{{}, {Fields: 63, Map: 1<<63 - 1}, {Kind: 1}, {Kind: 2}, {Kind: 2, Fields: 63, Map: 1 << 62}, {Kind: 3}, {Kind: 3, Map: 1}} {
		m := yard()
		m.Shapes = append(m.Shapes, s, s)
		wantGood(t, "a shape", m)
	}
}

// P12.1, rule 1: a constant is a number of 63 bits.
func TestConstants(t *testing.T) {
	for _, v := range []int64{0, -1, 1, -1 << 62, -1<<62 + 1, 1<<62 - 1, 1<<62 - 2} {
		m := yard()
		m.Consts = append(m.Consts, v)
		wantGood(t, strconv.FormatInt(v, 10), m)
	}
	for _, v := range []int64{1 << 62, 1<<62 + 1, -1<<62 - 1, -1<<62 - 2, math.MaxInt64, math.MinInt64, math.MaxInt64 - 1, math.MinInt64 + 1} {
		for at := range 4 {
			m := yard()
			m.Consts = slices.Insert(m.Consts, at, v)
			wantFault(t, strconv.FormatInt(v, 10), m, ofNone(1))
		}
	}
}

// P12.1, rule 2: which function may be Main.
func TestMain(t *testing.T) {
	m := yard()
	for n, f := range m.Funcs {
		m.Main = n
		want := ofNone(2)
		if f.Params == 0 && f.Caught == 0 && f.Result == 0 {
			want = verify.Fault{}
		}
		wantFault(t, "Main "+strconv.Itoa(n), m, want)
	}
	for _, n := range []int{-1, -2, len(m.Funcs), len(m.Funcs) + 1, math.MinInt, math.MaxInt, 1 << 32, -1 << 32, 128} {
		m.Main = n
		wantFault(t, "Main "+strconv.Itoa(n), m, ofNone(2))
	}
	// What lies in the spare room is no function.
	m.Funcs, m.Main = m.Funcs[:3], 3
	wantFault(t, "in the spare room", m, ofNone(2))
}

// P12.1, rule 2: Main without Params, Caught, Result, each alone; where rule 3 would find a fault too.
func TestMainHasNone(t *testing.T) {
	for _, v := range []int{1, 2, 3, -1, 64, math.MinInt, math.MaxInt} {
		for k := range 3 {
			m := yard()
			f := &m.Funcs[3]
			m.Main = 3
			*[]*int{&f.Params, &f.Caught, &f.Result}[k] = v
			wantFault(t, strconv.Itoa(v), m, ofNone(2))
		}
	}
	m := yard()
	m.Main = 3
	wantGood(t, "Main 3", m)
	m.Funcs[3].Params, m.Funcs[3].Caught = 1, -1
	wantFault(t, "that come to 0", m, ofNone(2))
}

// wantWhole lays a function in, at each place, and wants it to be as a whole as good says.
func wantWhole(t *testing.T, where string, f code.Func, good bool) {
	t.Helper()
	for _, n := range []int{1, 3, 13} {
		m := yard()
		if n < len(m.Funcs) {
			m.Funcs[n] = f
		} else {
			m.Funcs = append(m.Funcs, f)
		}
		want := verify.Fault{}
		if !good {
			want = ofFunc(n)
		}
		wantFault(t, where, m, want)
	}
}

// blank is a function of so many numbers that traps.
func blank(params, caught, slots int) code.Func {
	return code.Func{Params: params, Caught: caught, Slots: slots, Kinds: make([]bool, max(slots, 0)), Code: []code.Instr{{Op: 44, A: 1}}, Maps: []uint64{0}}
}

// P12.1, rule 3: Params, Caught, Slots against one another.
func TestSlotCounts(t *testing.T) {
	for _, c := range []struct {
		params, caught, slots int
		good                  bool
	}{
		{0, 0, 0, true}, {0, 0, 1, true}, {1, 0, 1, true}, {0, 1, 1, true}, {1, 0, 0, false}, {0, 1, 0, false}, {1, 1, 1, false}, {1, 1, 2, true}, {2, 1, 2, false}, {1, 2, 2, false},
		{-1, 0, 0, false}, {0, -1, 0, false}, {-1, 1, 5, false}, {1, -1, 5, false}, {-1, -1, 5, false}, {-5, 0, 64, false},
		{0, 62, 62, true}, {0, 62, 64, true}, {2, 62, 64, true}, {3, 62, 64, false}, {0, 63, 63, false}, {0, 63, 64, false}, {0, 64, 64, false}, {1, 62, 62, false},
		{0, 0, 63, true}, {0, 0, 64, true}, {0, 0, 65, false}, {0, 0, 66, false}, {0, 0, 1000, false}, {64, 0, 64, true}, {65, 0, 64, false}, {65, 0, 65, false}, {63, 1, 64, true}, {64, 1, 64, false}, {64, 1, 65, false},
		{0, 0, -1, false}, {0, 0, math.MinInt, false}, {0, 0, -64, false}, {-1, 0, -1, false}, {0, -1, -1, false},
		{math.MinInt, 0, 5, false}, {0, math.MinInt, 5, false}, {math.MinInt, math.MinInt, 5, false}, {math.MinInt, math.MinInt, 0, false}, {math.MaxInt, 0, 64, false}, {0, math.MaxInt, 64, false},
		{math.MaxInt, math.MaxInt, 64, false}, {math.MaxInt, 1, 64, false}, {math.MaxInt, 62, 64, false}, {1, math.MaxInt, 64, false}, {1 << 62, 1 << 62, 64, false}, {math.MinInt, 62, 64, false}, {62, math.MinInt, 64, false}, {math.MaxInt, math.MinInt, 64, false}, {math.MinInt, math.MaxInt, 64, false},
		{1 << 32, 0, 64, false}, {0, 1 << 32, 64, false}, {1<<32 + 1, 0, 1, false},
	} {
		where := strconv.Itoa(c.params) + " " + strconv.Itoa(c.caught) + " " + strconv.Itoa(c.slots)
		wantWhole(t, where, blank(c.params, c.caught, c.slots), c.good)
	}
	for _, slots := range []int{math.MaxInt, 1 << 32, 1<<32 + 2, math.MinInt + 2} {
		f := blank(0, 0, 2)
		f.Slots = slots
		wantWhole(t, "slots without kinds", f, false)
	}
}

// P12.1, rule 3: as many Kinds as Slots.
func TestKindCounts(t *testing.T) {
	for _, slots := range []int{0, 1, 2, 62, 63, 64} {
		for count := range 67 {
			f := blank(0, 0, slots)
			f.Kinds = make([]bool, count)
			if count == slots-1 || count == slots || count == slots+1 || count == 0 || count > 63 {
				wantWhole(t, strconv.Itoa(slots)+" slots, kinds "+strconv.Itoa(count), f, count == slots)
			}
		}
	}
	f := blank(0, 0, 2)
	f.Kinds = make([]bool, 1, 9)
	wantWhole(t, "spare room is none", f, false)
}

// P12.1, rule 3: Result from 0 to 2.
func TestResults(t *testing.T) {
	for _, result := range []int{-1, 0, 1, 2, 3, 4, -2, math.MinInt, math.MaxInt, 1 << 32, 1<<32 + 1} {
		f := blank(1, 0, 1)
		f.Result = result
		wantWhole(t, "Result "+strconv.Itoa(result), f, result >= 0 && result <= 2)
	}
}

// P12.1, rule 3: from 1 to MaxCode instructions, and as many Maps.
func TestCodeCounts(t *testing.T) {
	for _, c := range []struct {
		code, maps int
		good       bool
	}{{0, 0, false}, {0, 1, false}, {1, 0, false}, {1, 1, true}, {1, 2, false}, {2, 1, false}, {2, 2, true}, {2, 3, false}, {4095, 4095, true}, {4096, 4096, true}, {4096, 4095, false}, {4096, 4097, false}, {4097, 4097, false}, {4097, 4096, false}, {5000, 5000, false}} {
		f := blank(0, 0, 0)
		f.Code, f.Maps = slices.Repeat([]code.Instr{{Op: 44, A: 1}}, c.code), make([]uint64, c.maps)
		wantWhole(t, strconv.Itoa(c.code)+" instructions, maps "+strconv.Itoa(c.maps), f, c.good)
	}
	if api.MaxCode != 4096 || api.MaxSlots != 64 || api.MaxFuncs != 128 {
		t.Errorf("other limits")
	}
	f := blank(0, 0, 0)
	f.Maps = make([]uint64, 0, 9)
	wantWhole(t, "spare room is none", f, false)
	f.Code, f.Maps = f.Code[:0], f.Maps[:0]
	wantWhole(t, "spare room is no code", f, false)
}

// P12.1, rule 3: each function is asked, the first fault is the lowest function's.
func TestWholeOrder(t *testing.T) {
	for _, list := range [][]int{{3}, {12}, {3, 5}, {5, 3}, {12, 1}, {0, 12}, {0}} {
		m := yard()
		for _, n := range list {
			m.Funcs[n].Maps = nil
		}
		wantFault(t, "functions", m, ofFunc(slices.Min(list)))
	}
}
