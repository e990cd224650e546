package verify_test

import (
	"testing"

	"gantline/code"
	"gantline/head"
	"gantline/verify"
)

// breaks has for each rule a way to break it in the yard's function 3, at its instruction 1 from rule 4 on.
func breaks(rule int, m *code.Module) {
	f := &m.Funcs[3]
	switch rule {
	case 1:
		m.Consts[1] = 1 << 62
	case 2:
		m.Main = 1
	case 3:
		f.Result = 3
	case 4:
		f.Code[1].A = 99
	case 5:
		f.Code[1].B = 99
	case 6:
		f.Code[1].A = 4
	case 7:
		f.Code = f.Code[:2]
		f.Maps = f.Maps[:2]
	case 9:
		f.Maps[1] ^= 1
	}
}

// P12.1: of two rules of one module the first is told; of one instruction rule by rule.
func TestTwoRules(t *testing.T) {
	ground := func() code.Module {
		m := yard()
		m.Funcs[3] = function(0, 0, 0, "nnnnaaaa", poll(), code.Instr{Op: 0, A: 0, B: 0}, end())
		return mapped(m)
	}
	wantGood(t, "the ground", ground())
	rules := []int{1, 2, 3, 4, 5, 6, 7, 9}
	for k, first := range rules {
		for _, second := range rules[k:] {
			want := verify.Fault{Func: 3, PC: 1, Rule: first}
			switch {
			case first <= 2:
				want.Func, want.PC = -1, -1
			case first == 3:
				want.PC = -1
			}
			m := ground()
			breaks(second, &m)
			if first != second {
				breaks(first, &m)
			}
			if first == 4 && second == 6 {
				// Both are in A.
				continue
			}
			wantFault(t, "two rules", m, want)
		}
	}
}

// P12.1: rule by rule within an instruction, where it breaks several.
func TestOneInstruction(t *testing.T) {
	for _, c := range []struct {
		i    code.Instr
		rule int
	}{
		{code.Instr{Op: 20, A: 99, B: 99}, 4}, {code.Instr{Op: 20, A: 4, B: 99}, 5}, {code.Instr{Op: 20, A: 0, B: 4, C: 8}, 4}, {code.Instr{Op: 20, A: 0, B: 4, C: 4}, 5}, {code.Instr{Op: 20, A: 0, B: 2, C: 0}, 6}, {code.Instr{Op: 20, A: 4, B: 7, C: 0}, 6},
		{code.Instr{Op: 21, A: 99, B: 0, D: -1}, 4}, {code.Instr{Op: 21, A: 0, B: 0, D: -1}, 5}, {code.Instr{Op: 21, A: 0, B: 0, D: 1}, 6},
		{code.Instr{Op: 25, A: 99, B: 1}, 4}, {code.Instr{Op: 25, A: 0, B: 1}, 5}, {code.Instr{Op: 25, A: 0, B: 0}, 6},
		{code.Instr{Op: 34, A: 8, B: 2}, 4}, {code.Instr{Op: 34, A: 4, B: 2}, 5}, {code.Instr{Op: 34, A: 4, B: 0}, 6},
		{code.Instr{Op: 19, A: 9, B: 9}, 4}, {code.Instr{Op: 19, A: 4, B: 9}, 6}, {code.Instr{Op: 19, A: 0, B: 9}, 7}, {code.Instr{Op: 19, A: 0, B: place}, 8}, {code.Instr{Op: 19, A: 4, B: place}, 6},
		{code.Instr{Op: 37, A: 8, B: 0, C: 4}, 4}, {code.Instr{Op: 37, A: 4, B: 0, C: 4}, 5}, {code.Instr{Op: 37, A: 4, B: 3, C: 4}, 6},
		{code.Instr{Op: 29, A: 0, C: 5}, 6}, {code.Instr{Op: 29, A: 4, C: 5}, 10}, {code.Instr{Op: 32, A: 4, B: 4, C: 5}, 6}, {code.Instr{Op: 32, A: 4, B: 0, C: 5}, 10}, {code.Instr{Op: 32, A: 4, B: 0, C: 8}, 4},
	} {
		wantRule(t, c.rule, c.i)
	}
	// A wrong map stands behind all but rule 10.
	m := yardWith(code.Instr{Op: 29, A: 4, C: 5})
	m.Funcs[0].Maps[place] = 0
	wantRuleIn(t, 9, m, m.Funcs[0].Code[place])
	m = yardWith(jump(place))
	m.Funcs[0].Maps[place] = 1
	wantRuleIn(t, 8, m, jump(place))
	m = yardWith(jump(99))
	m.Funcs[0].Maps[place] = 1
	wantRuleIn(t, 7, m, jump(99))
}

// P12.1: rule by rule within a select, though a later case breaks the earlier rule.
func TestOneSelect(t *testing.T) {
	wrong := []code.Case{receives(99, 0, 2), {Kind: 3, Target: 2}, receives(0, 0, 2), receives(4, 0, 99), receives(4, 0, place)}
	for a, first := range wrong {
		for b, second := range wrong {
			m := yardWith(choose(0, 2))
			m.Cases = []code.Case{first, second}
			wantRuleIn(t, 4+min(a, b), mapped(m), choose(0, 2))
		}
	}
	// A case of another's ahead of kinds, behind slots.
	m := yard()
	m.Funcs[0].Code = []code.Instr{choose(1, 1), choose(0, 2), poll(), poll(), end()}
	m.Cases = []code.Case{receives(4, 0, 2), receives(4, 0, 2)}
	wantFault(t, "another's", mapped(m), fault(0, 1, 5))
	m.Cases[0].Chan = 0
	wantFault(t, "another's, and a kind", mapped(m), fault(0, 1, 5))
	m.Cases[0].Chan = 8
	wantFault(t, "another's, and a slot", mapped(m), fault(0, 1, 4))
}

// P12.1: instruction by instruction: the first one's fault, though it breaks a later rule.
func TestTwoInstructions(t *testing.T) {
	wrong := []code.Instr{{Op: 1, A: 99}, {Op: 0, B: 99}, {Op: 0, A: 4}, jump(99), jump(-1), {Op: 45}, {Op: 29, A: 4, C: 5}}
	rules := []int{4, 5, 6, 7, 7, 4, 10}
	for a, first := range wrong {
		for b, second := range wrong {
			m := written(poll(), first, second)
			wantFault(t, "at 1 and 2", m, fault(0, 1, rules[a]))
			m = written(poll(), poll(), second, first)
			wantFault(t, "at 2 and 3", m, fault(0, 2, rules[b]))
		}
		m := written(poll(), poll(), first)
		m.Funcs[0].Maps[1] = 1
		wantFault(t, "a wrong map ahead", m, fault(0, 1, 9))
	}
}

// P12.1: function by function: the first one's fault, though it stands farther behind.
func TestTwoFunctions(t *testing.T) {
	m := yard()
	m.Funcs[3].Code = []code.Instr{poll(), poll(), {Op: 29, A: 0, C: 1}, end()}
	m.Funcs[3].Slots, m.Funcs[3].Kinds = 2, []bool{true, true}
	m.Funcs[5].Code = []code.Instr{{Op: 45}, end()}
	wantFault(t, "3 and 5", mapped(m), fault(3, 2, 10))
	m.Funcs[1].Code = []code.Instr{poll(), {Op: 45}, give(0)}
	wantFault(t, "1, 3 and 5", mapped(m), fault(1, 1, 4))
	// Main need not be the first: it is asked like any other.
	m.Main = 9
	m.Funcs[9] = m.Funcs[0]
	wantFault(t, "another Main", mapped(m), fault(1, 1, 4))
}

// P12.1: a whole function's fault ahead of any instruction's, in whichever function that is.
func TestWholeAndInstruction(t *testing.T) {
	for n := range 13 {
		m := yardWith(code.Instr{Op: 45})
		m.Funcs[n].Maps = append(m.Funcs[n].Maps, 0)
		wantFault(t, "an instruction of 0 and all of another", m, ofFunc(n))
		m.Main = -1
		wantFault(t, "and Main", m, ofNone(2))
		m.Shapes = append(m.Shapes, head.Shape{Kind: 4})
		wantFault(t, "and a shape", m, ofNone(1))
	}
	// What a function says of itself as a whole is not leant upon ahead of that.
	for _, change := range []func(f *code.Func){
		func(f *code.Func) { f.Params = 99 },
		func(f *code.Func) { f.Params = -1 },
		func(f *code.Func) { f.Caught = 99 },
		func(f *code.Func) { f.Caught = -1 },
		func(f *code.Func) { f.Kinds = nil },
		func(f *code.Func) { f.Slots = 1 << 62 },
		func(f *code.Func) { f.Code = nil },
		func(f *code.Func) { f.Result = -1 },
	} {
		for _, i := range []code.Instr{{Op: 20, A: 0, B: 1, C: 3}, {Op: 23, A: 1, B: 3}, {Op: 36, A: 4, B: 1, C: 0}} {
			m := yardWith(i)
			change(&m.Funcs[1])
			wantFault(t, code.Show(i), m, ofFunc(1))
		}
	}
}

// P12.1: a Fault of noughts stands beside true, and only there.
func TestNoughts(t *testing.T) {
	if f, ok := verify.Check(yard()); !ok || f != (verify.Fault{}) {
		t.Errorf("%v, %v", f, ok)
	}
	m := yard()
	m.Funcs[0].Code[0].Op = 99
	if f, ok := verify.Check(m); ok || f != (verify.Fault{Rule: 4}) {
		t.Errorf("at 0, 0: %v, %v", f, ok)
	}
	if !verify.Module(yard()) || verify.Module(m) || verify.Module(code.Module{}) {
		t.Errorf("Module")
	}
}
