package verify_test

import (
	"math"
	"slices"
	"testing"

	"gantline/code"
	"gantline/head"
	"gantline/verify"
)

// beyond are numbers that a list of so many does not have.
func beyond(count int) []int {
	return []int{-1, -2, count, count + 1, 1 << 32, -1 << 32, 1<<32 + 1, math.MinInt, math.MinInt + 1, math.MaxInt, math.MaxInt - 1}
}

// P12.1, rule 5: constants.
func TestNamedConstants(t *testing.T) {
	for b := range 3 {
		wantRule(t, 0, code.Instr{Op: 0, A: 0, B: b})
	}
	for _, b := range beyond(3) {
		wantRule(t, 5, code.Instr{Op: 0, A: 0, B: b})
	}
	m := yardWith(code.Instr{Op: 0, A: 0, B: 0})
	m.Consts = nil
	wantRuleIn(t, 5, m, code.Instr{Op: 0})
	m.Consts = []int64{1, 2, 3}[:0]
	wantRuleIn(t, 5, m, code.Instr{Op: 0})
	// Behind 256, too.
	m.Consts = make([]int64, 4096)
	for _, b := range []int{256, 257, 4095} {
		m.Funcs[0].Code[place].B = b
		wantRuleIn(t, 0, m, m.Funcs[0].Code[place])
	}
	m.Funcs[0].Code[place].B = 4096
	wantRuleIn(t, 5, m, m.Funcs[0].Code[place])
}

// P12.1, rule 5: globals.
func TestNamedGlobals(t *testing.T) {
	for b, slot := range []int{0, 4} {
		wantRule(t, 0, code.Instr{Op: 34, A: slot, B: b})
		wantRule(t, 0, code.Instr{Op: 35, A: b, B: slot})
	}
	for _, n := range beyond(2) {
		wantRule(t, 5, code.Instr{Op: 34, A: 0, B: n})
		wantRule(t, 5, code.Instr{Op: 35, A: n, B: 0})
	}
	for _, i := range []code.Instr{{Op: 34}, {Op: 35}} {
		m := yardWith(i)
		m.Globals = nil
		wantRuleIn(t, 5, m, i)
	}
}

// P12.1, rule 5: shapes, of each Kind.
func TestNamedShapes(t *testing.T) {
	for _, c := range []struct{ op, kind int }{{25, 0}, {26, 1}, {37, 3}} {
		for b := range 4 {
			rule := 5
			if b == c.kind {
				rule = 0
			}
			wantRule(t, rule, code.Instr{Op: c.op, A: 4, B: b, C: 0})
		}
		for _, b := range beyond(4) {
			wantRule(t, 5, code.Instr{Op: c.op, A: 4, B: b, C: 0})
		}
		i := code.Instr{Op: c.op, A: 4}
		m := yardWith(i)
		m.Shapes = nil
		wantRuleIn(t, 5, m, i)
		// The Kind is the shape's, whatever its number is.
		i.B = 1
		m = yardWith(i)
		for kind := range 4 {
			m.Shapes = []head.Shape{{Kind: c.kind}, {Kind: kind}, {Kind: c.kind}}
			if kind == c.kind {
				wantRuleIn(t, 0, m, i)
			} else {
				wantRuleIn(t, 5, m, i)
			}
		}
	}
}

// P12.1, rule 5: functions that there are not.
func TestNamedFunctions(t *testing.T) {
	for _, n := range beyond(len(yard().Funcs)) {
		wantRule(t, 5, code.Instr{Op: 20, A: -1, B: n, C: 0})
		wantRule(t, 5, code.Instr{Op: 20, A: 0, B: n, C: 0})
		wantRule(t, 5, code.Instr{Op: 23, A: n, B: 0})
		wantRule(t, 5, code.Instr{Op: 36, A: 4, B: n, C: 0})
		// A run that is none names no slots.
		wantRule(t, 5, code.Instr{Op: 20, A: -1, B: n, C: 99})
		wantRule(t, 5, code.Instr{Op: 23, A: n, B: -7})
		wantRule(t, 5, code.Instr{Op: 36, A: 4, B: n, C: math.MinInt})
	}
}

// P12.1, rule 5: a function may name itself, and Main.
func TestNamedItself(t *testing.T) {
	wantRule(t, 0, code.Instr{Op: 20, A: -1, B: 0})
	wantRule(t, 0, code.Instr{Op: 23, A: 0})
	wantRule(t, 0, code.Instr{Op: 36, A: 4, B: 0})
}

// P12.1, rule 5: a call's and go's function has no Caught; a go's no Result.
func TestCalledFunctions(t *testing.T) {
	for n, f := range yard().Funcs {
		if f.Params > slotCount || f.Caught > slotCount {
			continue
		}
		call, _ := verify.Check(yardWith(code.Instr{Op: 20, A: -1, B: n, C: 0}))
		if (call.Rule == 5) != (f.Caught > 0) {
			t.Errorf("call of %d: %v", n, call)
		}
		start, _ := verify.Check(yardWith(code.Instr{Op: 23, A: n, B: 0}))
		if (start.Rule == 5) != (f.Caught > 0 || f.Result > 0) {
			t.Errorf("go of %d: %v", n, start)
		}
		closure, _ := verify.Check(yardWith(code.Instr{Op: 36, A: 4, B: n, C: 0}))
		if closure.Rule == 5 {
			t.Errorf("closure of %d: %v", n, closure)
		}
	}
	for _, c := range []struct {
		i    code.Instr
		rule int
	}{
		{code.Instr{Op: 20, A: -1, B: 11}, 5}, {code.Instr{Op: 20, A: 4, B: 6}, 5}, {code.Instr{Op: 20, A: -1, B: 4}, 5}, {code.Instr{Op: 20, A: 4, B: 8}, 0},
		{code.Instr{Op: 23, A: 11}, 5}, {code.Instr{Op: 23, A: 6}, 5}, {code.Instr{Op: 23, A: 7}, 5}, {code.Instr{Op: 23, A: 8}, 5}, {code.Instr{Op: 23, A: 1, B: 3}, 5}, {code.Instr{Op: 23, A: 3}, 0},
		{code.Instr{Op: 36, A: 4, B: 7}, 0}, {code.Instr{Op: 36, A: 4, B: 6, C: 4}, 0},
	} {
		wantRule(t, c.rule, c.i)
	}
}

// P12.1, rule 5: the traps from 1 to 6.
func TestNamedTraps(t *testing.T) {
	for trap := -3; trap < 12; trap++ {
		rule := 5
		if trap >= 1 && trap <= 6 {
			rule = 0
		}
		wantRule(t, rule, code.Instr{Op: 44, A: trap})
	}
	for _, trap := range []int{math.MinInt, math.MaxInt, 1<<32 + 1, 257} {
		wantRule(t, 5, code.Instr{Op: 44, A: trap})
	}
}

// P12.1, rule 5: D of callc, C of goc is not below 0.
func TestRunLengths(t *testing.T) {
	for _, n := range []int{-1, -2, -8, -64, -65, math.MinInt, math.MinInt + 1, -1 << 32} {
		for _, first := range []int{0, 7, 8, -1, math.MinInt, math.MaxInt} {
			wantRule(t, 5, code.Instr{Op: 21, A: 0, B: 4, C: first, D: n})
			wantRule(t, 5, code.Instr{Op: 21, A: -1, B: 4, C: first, D: n})
			wantRule(t, 5, code.Instr{Op: 24, A: 4, B: first, C: n})
		}
	}
}

// P12.1, rule 5: all of a select's cases are there, at least one.
func TestNamedCases(t *testing.T) {
	for first := -2; first < 9; first++ {
		for count := -2; count < 9; count++ {
			rule := 5
			if first >= 0 && count >= 1 && first+count <= 6 {
				rule = 0
			}
			wantRule(t, rule, choose(first, count))
		}
	}
	for _, c := range [][2]int{
		{0, math.MaxInt}, {1, math.MaxInt}, {5, math.MaxInt}, {6, math.MaxInt}, {0, math.MinInt}, {3, math.MinInt}, {math.MaxInt, 1}, {math.MaxInt, 2}, {math.MaxInt, 3}, {math.MaxInt, math.MaxInt}, {math.MinInt, 1}, {math.MinInt, math.MaxInt}, {math.MinInt, math.MinInt}, {math.MinInt + 3, math.MaxInt}, {-1, 2}, {-3, 5}, {1 << 62, 1 << 62}, {1 << 32, 1}, {0, 1<<32 + 1}, {1<<63 - 6, 7}, {-1, math.MinInt}, {math.MaxInt, 0}, {0, 0}, {6, 0}, {-1, 0},
	} {
		wantRule(t, 5, choose(c[0], c[1]))
	}
	// Where they are not all there, nothing is asked of those that are.
	m := yardWith(choose(4, 3))
	m.Cases[4] = receives(99, 99, 99)
	wantRuleIn(t, 5, mapped(m), choose(4, 3))
	m.Cases = nil
	wantRuleIn(t, 5, mapped(m), choose(4, 3))
	m = yardWith(choose(0, 1))
	m.Cases = m.Cases[:0]
	wantRuleIn(t, 5, mapped(m), choose(0, 1))
}

// P12.1, rule 5: of Kind 0 to 2.
func TestCaseKinds(t *testing.T) {
	for _, kind := range []int{-1, -2, 3, 4, math.MinInt, math.MaxInt, 1 << 32, 1<<32 + 1} {
		wantCase(t, 5, code.Case{Kind: kind, Chan: 4, Val: 0, Target: 2})
		for k := range 6 {
			m := yardWith(choose(0, 6))
			m.Cases[k].Kind = kind
			wantRuleIn(t, 5, mapped(m), choose(0, 6))
		}
		m := yardWith(choose(1, 4))
		m.Cases[0].Kind, m.Cases[5].Kind = kind, kind
		wantRuleIn(t, 0, mapped(m), choose(1, 4))
	}
}

// P12.1, rule 5: at most one of a select's cases is a default.
func TestDefaults(t *testing.T) {
	for a := range 4 {
		for b := range 4 {
			m := yardWith(choose(0, 4))
			m.Cases = slices.Repeat([]code.Case{receives(4, 0, 2)}, 5)
			m.Cases[a], m.Cases[b] = otherwise(2), otherwise(3)
			m.Cases[4] = otherwise(2) // nobody's
			rule := 5
			if a == b {
				rule = 0
			}
			wantRuleIn(t, rule, mapped(m), choose(0, 4))
		}
	}
	m := yardWith(choose(0, 1))
	m.Cases[0] = otherwise(2)
	wantRuleIn(t, 0, mapped(m), choose(0, 1))
	// A default each for two selects.
	m.Cases[1] = otherwise(2)
	m.Funcs[3].Code = []code.Instr{choose(1, 1), poll(), end()}
	m.Funcs[3].Maps = nil
	wantGood(t, "two defaults of two selects", mapped(m))
}

// selects is a module whose function 0 has these selects one behind the other, and function 1 those; all of 8 cases go on at the last instruction.
func selects(here, there []code.Instr) code.Module {
	m := code.Module{Funcs: []code.Func{function(0, 0, 0, "a"), function(0, 0, 0, "a")}}
	for range 8 {
		m.Cases = append(m.Cases, receives(0, 0, 9))
	}
	for n, list := range [][]code.Instr{here, there} {
		whole := slices.Repeat([]code.Instr{poll()}, 9)
		copy(whole, list)
		m.Funcs[n].Code = append(whole, end())
	}
	return mapped(m)
}

// P12.1, rule 5: a case is one select's alone: of the first that names it.
func TestCasesOfOthers(t *testing.T) {
	for _, c := range []struct {
		here, there []code.Instr
		want        verify.Fault
	}{
		{[]code.Instr{choose(0, 4), choose(4, 4)}, nil, verify.Fault{}},
		{[]code.Instr{choose(4, 4), choose(0, 4)}, nil, verify.Fault{}},
		{[]code.Instr{choose(0, 4), choose(3, 4)}, nil, verify.Fault{Func: 0, PC: 1, Rule: 5}},
		{[]code.Instr{choose(3, 4), choose(0, 4)}, nil, verify.Fault{Func: 0, PC: 1, Rule: 5}},
		{[]code.Instr{choose(0, 8), choose(7, 1)}, nil, verify.Fault{Func: 0, PC: 1, Rule: 5}},
		{[]code.Instr{choose(7, 1), choose(0, 8)}, nil, verify.Fault{Func: 0, PC: 1, Rule: 5}},
		{[]code.Instr{choose(0, 1), poll(), poll(), choose(0, 1)}, nil, verify.Fault{Func: 0, PC: 3, Rule: 5}},
		{[]code.Instr{choose(0, 2), choose(2, 2), choose(4, 2), choose(6, 2)}, nil, verify.Fault{}},
		{[]code.Instr{choose(0, 2), choose(2, 2), choose(4, 2), choose(1, 1)}, nil, verify.Fault{Func: 0, PC: 3, Rule: 5}},
		{[]code.Instr{choose(0, 2), choose(6, 2), choose(4, 2), choose(2, 3)}, nil, verify.Fault{Func: 0, PC: 3, Rule: 5}},
		{[]code.Instr{choose(0, 4)}, []code.Instr{choose(4, 4)}, verify.Fault{}},
		{[]code.Instr{choose(4, 4)}, []code.Instr{poll(), choose(0, 4)}, verify.Fault{}},
		{[]code.Instr{choose(4, 4)}, []code.Instr{poll(), choose(0, 5)}, verify.Fault{Func: 1, PC: 1, Rule: 5}},
		{[]code.Instr{poll(), poll(), choose(2, 1)}, []code.Instr{choose(0, 3)}, verify.Fault{Func: 1, PC: 0, Rule: 5}},
		{nil, []code.Instr{choose(2, 1), choose(2, 1)}, verify.Fault{Func: 1, PC: 1, Rule: 5}},
		// One that no way reaches names its cases too.
		{[]code.Instr{jump(2), choose(0, 4), choose(3, 1)}, nil, verify.Fault{Func: 0, PC: 2, Rule: 5}},
		// A way back to the same select is no other one.
		{[]code.Instr{poll(), choose(0, 8), jump(0)}, nil, verify.Fault{}},
	} {
		wantFault(t, "selects", selects(c.here, c.there), c.want)
	}
}

// P12.1, rule 5: that holds for each call of Check anew.
func TestCasesAskedAgain(t *testing.T) {
	m := selects([]code.Instr{choose(0, 4), choose(4, 4)}, nil)
	for range 3 {
		wantGood(t, "again", m)
	}
}
