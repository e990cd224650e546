package verify_test

import (
	"math"
	"slices"
	"strconv"
	"testing"

	"gantline/code"
	"gantline/verify"
)

func fault(n, pc, rule int) verify.Fault { return verify.Fault{Func: n, PC: pc, Rule: rule} }

// leading are instructions that lead to a place, each as the yard has it with its cases.
func leading(target int) []code.Module {
	list := []code.Module{yardWith(jump(target)), yardWith(when(0, target))}
	for _, c := range []code.Case{receives(4, 0, target), receives(4, -1, target), sends(4, 0, target), otherwise(target)} {
		list = append(list, yardCase(c))
		m := yardWith(choose(5, 1))
		m.Cases[5] = c
		list = append(list, mapped(m))
	}
	return list
}

// P12.1, rules 7 and 8: each target, at each place of the code and beyond it.
func TestTargets(t *testing.T) {
	for target := -3; target < 8; target++ {
		for _, m := range leading(target) {
			rule := 0
			switch {
			case target < 0 || target >= 4:
				rule = 7
			case target == place:
				rule = 8
			}
			wantRuleIn(t, rule, m, m.Funcs[0].Code[place])
		}
	}
	for _, target := range []int{math.MinInt, math.MinInt + 1, math.MaxInt, math.MaxInt - 1, 1 << 32, 1<<32 + 2, 2 - 1<<32, 4096, 4097} {
		for _, m := range leading(target) {
			wantRuleIn(t, 7, m, m.Funcs[0].Code[place])
		}
	}
}

// P12.1, rule 7: the targets of all cases are asked, in whatever order they stand; of those that it does not name none.
func TestTargetsOfCases(t *testing.T) {
	for k := range 6 {
		for _, target := range []int{-1, 4, math.MaxInt} {
			m := yardWith(choose(0, 6))
			m.Cases[k].Target = target
			wantRuleIn(t, 7, mapped(m), choose(0, 6))
		}
		m := yardWith(choose(0, 6))
		m.Cases[k].Target = place
		wantRuleIn(t, 8, mapped(m), choose(0, 6))
		m.Cases[(k+1)%6].Target = 4
		wantRuleIn(t, 7, mapped(m), choose(0, 6))
	}
	m := yardWith(choose(1, 4))
	m.Cases[0].Target, m.Cases[5].Target = -1, place
	wantRuleIn(t, 0, mapped(m), choose(1, 4))
}

// P12.1, rule 7: an instruction of each row as the last one.
func TestLast(t *testing.T) {
	for _, i := range goods() {
		m := yard()
		m.Funcs[0].Code = []code.Instr{poll(), i}
		for k := range m.Cases {
			m.Cases[k].Target = 0
		}
		last := &m.Funcs[0].Code[1]
		switch code.Name(i.Op) {
		case "jump":
			last.A = 0
		case "if":
			last.B = 0
		}
		rule := 7
		if i.Op == 18 || i.Op == 22 || i.Op == 44 || i.Op == 41 {
			rule = 0
		}
		wantRuleIn(t, rule, mapped(m), *last)
		// And as the only one.
		m.Funcs[0].Code = []code.Instr{i}
		if got, ok := verify.Check(mapped(m)); ok != (i.Op == 22 || i.Op == 44) {
			t.Errorf("%s alone: %v", code.Show(i), got)
		}
	}
	// It is asked of the last one alone, and of each function's.
	m := yard()
	m.Funcs[3].Code = []code.Instr{end(), {Op: 44, A: 1}, jump(3), poll()}
	wantFault(t, "the last of function 3", mapped(m), fault(3, 3, 7))
	m.Funcs[3].Code[3] = jump(0)
	wantFault(t, "goes back to a return", mapped(m), fault(3, 3, 8))
	m.Funcs[3].Code[0] = poll()
	wantGood(t, "goes back to a poll", mapped(m))
}

// P12.1, rule 8: a target that is not behind the instruction is a poll, an instruction of any other row is none.
func TestBackTo(t *testing.T) {
	for _, i := range goods() {
		rule := 8
		if i.Op == 43 {
			rule = 0
		}
		for _, back := range []code.Instr{jump(1), when(3, 1), choose(0, 1), choose(0, 2)} {
			m := yard()
			m.Cases = append([]code.Case{receives(4, 5, 1), sends(4, 5, 1)}, m.Cases...)
			m.Cases = append(m.Cases, m.Cases[2:]...)
			if i.Op == 41 {
				i = choose(2, 1)
			}
			m.Funcs[0].Code = []code.Instr{poll(), i, poll(), back, end()}
			want := fault(0, 3, rule)
			if rule == 0 {
				want = fault(0, 0, 0)
			}
			wantFault(t, code.Show(back)+" to "+code.Show(i), mapped(m), want)
		}
	}
}

// P12.1, rule 8: to itself, and behind it, where a poll is not asked for.
func TestBackAndForth(t *testing.T) {
	for pc := 1; pc < 4; pc++ {
		for target := range 5 {
			for _, lead := range []code.Instr{jump(target), when(0, target), choose(0, 1)} {
				for at := range 5 {
					m := yard()
					m.Cases[0] = receives(4, 5, target)
					list := slices.Repeat([]code.Instr{{Op: 17, A: 0, B: 1}}, 5)
					list[at] = poll()
					list[4] = end()
					list[pc] = lead
					m.Funcs[0].Code = list
					want := fault(0, 0, 0)
					if target <= pc && (target != at || target == pc) {
						want = fault(0, pc, 8)
					}
					where := strconv.Itoa(pc) + " to " + strconv.Itoa(target) + ", poll at " + strconv.Itoa(at)
					wantFault(t, where, mapped(m), want)
				}
			}
		}
	}
	m := yard()
	m.Funcs[3].Code = []code.Instr{jump(0)}
	wantFault(t, "jump 0", mapped(m), fault(3, 0, 8))
	m.Funcs[3].Code = []code.Instr{poll(), jump(0)}
	wantGood(t, "poll, jump 0", mapped(m))
	m.Funcs[3].Code = []code.Instr{jump(1), end()}
	wantGood(t, "jump 1", mapped(m))
	m.Funcs[3].Code = []code.Instr{jump(1), poll(), jump(1)}
	wantGood(t, "a way in and a way back", mapped(m))
}
