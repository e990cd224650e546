package verify_test

import (
	"slices"
	"strconv"
	"strings"
	"testing"

	"gantline/code"
)

// other is a slot of the other kind.
func other(slot int) int { return (slot + 4) % slotCount }

// P12.1, rule 6: each operand that must be a number, or an address, of the other kind.
func TestKinds(t *testing.T) {
	asked := map[string]int{}
	for _, i := range goods() {
		for k, word := range words(i.Op) {
			v := *operand(&i, k)
			if !strings.Contains("n a n?", word) || v == -1 {
				continue
			}
			asked[word]++
			x := i
			*operand(&x, k) = other(v)
			wantRule(t, 6, x)
		}
	}
	if asked["n"] < 90 || asked["a"] < 35 || asked["n?"] < 3 {
		t.Errorf("%v", asked)
	}
}

// P12.1, rule 6: operands that may be of either kind.
func TestEitherKind(t *testing.T) {
	for slot := range slotCount {
		for _, i := range []code.Instr{
			{Op: 1, A: slot, B: slot}, {Op: 21, A: slot, B: 4}, {Op: 27, A: slot, B: 4}, {Op: 28, A: 4, C: slot}, {Op: 30, A: slot, B: 4, C: 0}, {Op: 31, A: 4, B: 0, C: slot}, {Op: 38, A: 4, B: slot}, {Op: 39, A: slot, B: 4, C: -1}, {Op: 39, A: slot, B: 4, C: 3},
			{Op: 21, A: 0, B: 4, C: slot, D: 1}, {Op: 24, A: 4, B: slot, C: 1}, {Op: 21, A: 0, B: 4, C: 0, D: slot}, {Op: 24, A: 4, B: 0, C: slot},
		} {
			wantRule(t, 0, i)
		}
	}
}

// P12.1, rule 6: by hand, the rows of the chapter's list that must hold addresses.
func TestAddresses(t *testing.T) {
	for _, i := range []code.Instr{
		{Op: 2, A: 0}, {Op: 16, A: 0, B: 0, C: 4}, {Op: 16, A: 0, B: 4, C: 0}, {Op: 16, A: 4, B: 4, C: 4}, {Op: 21, A: 0, B: 0}, {Op: 24, A: 0}, {Op: 25, A: 0, B: 0}, {Op: 26, A: 0, B: 1, C: 0}, {Op: 26, A: 4, B: 1, C: 4}, {Op: 27, A: 0, B: 0}, {Op: 28, A: 0, C: 0}, {Op: 29, A: 0, C: 0}, {Op: 30, A: 0, B: 0, C: 0}, {Op: 30, A: 0, B: 4, C: 4}, {Op: 31, A: 0, B: 0, C: 0}, {Op: 31, A: 4, B: 4, C: 0}, {Op: 32, A: 0, B: 0, C: 0}, {Op: 32, A: 4, B: 4, C: 0}, {Op: 33, A: 0, B: 0}, {Op: 33, A: 4, B: 4}, {Op: 36, A: 0, B: 3}, {Op: 37, A: 0, B: 3, C: 0}, {Op: 37, A: 4, B: 3, C: 4}, {Op: 38, A: 0, B: 0}, {Op: 39, A: 0, B: 0, C: -1}, {Op: 39, A: 0, B: 4, C: 4}, {Op: 40, A: 0},
		{Op: 0, A: 4}, {Op: 17, A: 0, B: 4}, {Op: 17, A: 4, B: 0}, {Op: 19, A: 4, B: 2}, {Op: 42, A: 4}, {Op: 3, A: 4, B: 0, C: 0}, {Op: 12, A: 0, B: 4, C: 0}, {Op: 15, A: 0, B: 0, C: 4}, {Op: 13, A: 0, B: 4, C: 4},
	} {
		wantRule(t, 6, i)
	}
}

// P12.1, rule 6: move: both alike.
func TestMove(t *testing.T) {
	for a := range slotCount {
		for b := range slotCount {
			rule := 0
			if (a < 4) != (b < 4) {
				rule = 6
			}
			wantRule(t, rule, code.Instr{Op: 1, A: a, B: b})
		}
	}
}

// P12.1, rule 6: load, store: the global's.
func TestGlobalKinds(t *testing.T) {
	for slot := range slotCount {
		for n, address := range yard().Globals {
			rule := 0
			if (slot >= 4) != address {
				rule = 6
			}
			wantRule(t, rule, code.Instr{Op: 34, A: slot, B: n})
			wantRule(t, rule, code.Instr{Op: 35, A: n, B: slot})
		}
	}
}

// P12.1, rule 6: a call's answer: -1 may stand for any Result, and must for none.
func TestCallAnswers(t *testing.T) {
	for _, c := range []struct{ n, result int }{{3, 0}, {0, 0}, {7, 1}, {8, 2}} {
		wantRule(t, 0, code.Instr{Op: 20, A: -1, B: c.n})
		for slot := range slotCount {
			rule := 6
			if c.result == 1 && slot < 4 || c.result == 2 && slot >= 4 {
				rule = 0
			}
			wantRule(t, rule, code.Instr{Op: 20, A: slot, B: c.n})
		}
	}
}

// spell is the kinds of some slots of the yard's function 0.
func spell(first, count int) string { return "nnnnaaaa"[first : first+count] }

// P12.1, rule 6: the arguments of call and go are of the kinds of the Params, slot by slot; nothing is asked of the slots beside them.
func TestArguments(t *testing.T) {
	for length := range 6 {
		for bitsOf := range 1 << length {
			kinds := ""
			for k := range length {
				kinds += string("na"[bitsOf>>k&1])
			}
			m := yard()
			m.Funcs[3] = function(length, 0, 0, kinds+"an", end())
			for first := range slotCount + 1 - length {
				rule := 6
				if spell(first, length) == kinds {
					rule = 0
				}
				for _, i := range []code.Instr{{Op: 20, A: -1, B: 3, C: first}, {Op: 23, A: 3, B: first}} {
					m.Funcs[0].Code = []code.Instr{poll(), i, end()}
					wantRuleIn(t, rule, mapped(m), i)
				}
			}
		}
	}
}

// P12.1, rule 6: what a closure catches is of the kinds behind the Params.
func TestCaughtKinds(t *testing.T) {
	for length := range 5 {
		for bitsOf := range 1 << length {
			kinds := ""
			for k := range length {
				kinds += string("an"[bitsOf>>k&1])
			}
			for _, params := range []string{"", "n", "a", "na"} {
				m := yard()
				m.Funcs[3] = function(len(params), length, 0, params+kinds+"na", end())
				for first := range slotCount + 1 - length {
					rule := 6
					if spell(first, length) == kinds {
						rule = 0
					}
					i := code.Instr{Op: 36, A: 4, B: 3, C: first}
					m.Funcs[0].Code = []code.Instr{poll(), i, end()}
					wantRuleIn(t, rule, mapped(m), i)
				}
			}
		}
	}
}

// P12.1, rule 6: as many as may be handed on, with one of the other kind.
func TestLongRuns(t *testing.T) {
	for _, c := range []struct{ params, caught int }{{64, 0}, {0, 62}, {2, 62}} {
		for at := -1; at < c.params+c.caught; at++ {
			kinds := strings.Repeat("n", c.params+c.caught)
			m := yard()
			m.Funcs[3] = function(c.params, c.caught, 0, kinds, end())
			if at >= 0 {
				m.Funcs[3].Kinds[at] = true
			}
			m.Funcs[0] = function(0, 0, 0, strings.Repeat("n", 63)+"a")
			i := code.Instr{Op: 36, A: 63, B: 3, C: 1}
			if c.caught == 0 {
				i = code.Instr{Op: 20, A: -1, B: 3, C: 0}
				m.Funcs[0].Kinds[63] = false
			}
			m.Funcs[0].Code = []code.Instr{poll(), i, end()}
			rule := 0
			if at >= 0 && (c.caught == 0 || at >= c.params) {
				rule = 6
			}
			wantRuleIn(t, rule, mapped(m), i)
		}
	}
}

// P12.1, rule 6: return: A's kind is the Result's, -1 just if it is 0.
func TestReturn(t *testing.T) {
	for result := range 3 {
		for slot := -1; slot < slotCount; slot++ {
			m := yard()
			m.Funcs[3] = function(0, 0, result, "nnnnaaaa", give(slot))
			want := fault(3, 0, 6)
			if result == 0 && slot == -1 || result == 1 && slot >= 0 && slot < 4 || result == 2 && slot >= 4 {
				want = fault(0, 0, 0)
			}
			wantFault(t, "result "+strconv.Itoa(result)+", return "+strconv.Itoa(slot), mapped(m), want)
		}
	}
	for slot := range slotCount {
		wantRule(t, 6, give(slot))
	}
}

// P12.1, rule 6: channels of cases are addresses; what is sent and received may be of either kind.
func TestCaseKindsOfSlots(t *testing.T) {
	for slot := range slotCount {
		rule := 0
		if slot < 4 {
			rule = 6
		}
		for value := range slotCount {
			wantCase(t, rule, receives(slot, value, 2))
			wantCase(t, rule, sends(slot, value, 2))
		}
		wantCase(t, rule, receives(slot, -1, 2))
		// Nothing is asked of a default.
		wantCase(t, 0, code.Case{Kind: 2, Chan: slot, Val: slot, Target: 2})
	}
	for k := range 6 {
		for _, c := range []code.Case{receives(3, 0, 2), sends(0, 4, 2)} {
			m := yardWith(choose(0, 6))
			m.Cases = slices.Repeat([]code.Case{receives(4, 0, 2)}, 6)
			m.Cases[k] = c
			wantRuleIn(t, 6, mapped(m), choose(0, 6))
		}
	}
}
