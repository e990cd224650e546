package verify_test

import (
	"math"
	"slices"
	"strings"
	"testing"

	"gantline/code"
	"gantline/verify"
)

// goods are instructions that are well at the yard's place: at least one of each row. (A return with a slot is not: see TestReturn.)
func goods() []code.Instr {
	list := []code.Instr{
		{Op: 0, A: 0, B: 0}, {Op: 0, A: 3, B: 2}, {Op: 1, A: 0, B: 3}, {Op: 1, A: 7, B: 4}, {Op: 1, A: 4, B: 4}, {Op: 2, A: 4}, {Op: 2, A: 7},
		{Op: 16, A: 0, B: 4, C: 7}, {Op: 16, A: 3, B: 5, C: 5}, {Op: 17, A: 0, B: 3}, {Op: 18, A: 2}, {Op: 18, A: 0}, {Op: 19, A: 0, B: 3}, {Op: 19, A: 3, B: 0},
		{Op: 20, A: 0, B: 1, C: 3}, {Op: 20, A: -1, B: 1, C: 3}, {Op: 20, A: 4, B: 2, C: 7}, {Op: 20, A: -1, B: 2, C: 4}, {Op: 20, A: -1, B: 3, C: 0}, {Op: 20, A: 2, B: 7, C: 0}, {Op: 20, A: 5, B: 8, C: 0}, {Op: 20, A: -1, B: 9, C: 0}, {Op: 20, A: -1, B: 0, C: 0},
		{Op: 21, A: 0, B: 4, C: 0, D: 0}, {Op: 21, A: 7, B: 5, C: 2, D: 4}, {Op: 21, A: -1, B: 7, C: 0, D: 8},
		{Op: 22, A: -1}, {Op: 23, A: 3, B: 0}, {Op: 23, A: 9, B: 0}, {Op: 23, A: 0, B: 7}, {Op: 24, A: 4, B: 0, C: 0}, {Op: 24, A: 7, B: 0, C: 8}, {Op: 24, A: 5, B: 7, C: 1},
		{Op: 25, A: 4, B: 0}, {Op: 26, A: 5, B: 1, C: 0}, {Op: 27, A: 0, B: 4, C: 0}, {Op: 27, A: 6, B: 7, C: 1}, {Op: 28, A: 4, B: 0, C: 0}, {Op: 28, A: 7, B: 1, C: 5}, {Op: 29, A: 4, B: 0, C: 3},
		{Op: 30, A: 0, B: 4, C: 3}, {Op: 30, A: 7, B: 4, C: 0}, {Op: 31, A: 4, B: 0, C: 3}, {Op: 31, A: 7, B: 3, C: 4}, {Op: 32, A: 5, B: 0, C: 0}, {Op: 33, A: 3, B: 4},
		{Op: 34, A: 0, B: 0}, {Op: 34, A: 7, B: 1}, {Op: 35, A: 0, B: 3}, {Op: 35, A: 1, B: 4}, {Op: 36, A: 4, B: 6, C: 7}, {Op: 36, A: 7, B: 3, C: 0}, {Op: 36, A: 5, B: 11, C: 0}, {Op: 36, A: 5, B: 1, C: 0},
		{Op: 37, A: 4, B: 3, C: 0}, {Op: 38, A: 4, B: 0}, {Op: 38, A: 7, B: 7}, {Op: 39, A: 0, B: 4, C: 0}, {Op: 39, A: 7, B: 7, C: 3}, {Op: 39, A: -1, B: 5, C: -1}, {Op: 39, A: -1, B: 5, C: 0}, {Op: 39, A: 5, B: 5, C: -1},
		{Op: 40, A: 4}, {Op: 40, A: 7}, {Op: 41, A: 0, B: 1}, {Op: 41, A: 0, B: 6}, {Op: 41, A: 5, B: 1}, {Op: 42, A: 0}, {Op: 42, A: 3}, {Op: 43}, {Op: 44, A: 1}, {Op: 44, A: 6},
	}
	for op := 3; op <= 15; op++ {
		list = append(list, code.Instr{Op: op, A: 0, B: 1, C: 3}, code.Instr{Op: op, A: 3, B: 3, C: 0})
	}
	return list
}

// P12.1: what is well.
func TestGoods(t *testing.T) {
	rows := map[int]int{}
	for _, i := range goods() {
		wantRule(t, 0, i)
		rows[i.Op]++
	}
	for op := range 45 {
		if rows[op] == 0 {
			t.Errorf("no %s", code.Name(op))
		}
	}
}

// P12.1: operands that a row does not name may be any.
func TestOthersMayBeAny(t *testing.T) {
	for _, i := range goods() {
		for k := len(words(i.Op)); k < 4; k++ {
			for _, v := range append(edges, -1) {
				x := i
				*operand(&x, k) = v
				wantRule(t, 0, x)
			}
		}
	}
	// So may a field's number: that is asked when it runs.
	for _, v := range append(edges, -1) {
		wantRule(t, 0, code.Instr{Op: 27, A: 0, B: 4, C: v})
		wantRule(t, 0, code.Instr{Op: 28, A: 4, B: v, C: 4})
		wantRule(t, 0, code.Instr{Op: 29, A: 4, B: v, C: 0})
	}
}

// P12.1, rule 4: Op is one.
func TestOps(t *testing.T) {
	for _, op := range []int{-1, -2, 45, 46, 255, 256, 300, -45, math.MinInt, math.MaxInt, 1 << 32, 1<<32 + 43, 43 - 1<<32} {
		wantRule(t, 4, code.Instr{Op: op})
		wantRule(t, 4, code.Instr{Op: op, A: 99, B: 99, C: 99, D: -1})
	}
}

// P12.1, rule 4: each operand that names a slot, at all edges.
func TestSlots(t *testing.T) {
	asked := 0
	for _, i := range goods() {
		for k, word := range words(i.Op) {
			if !strings.Contains("n a s n? s?", word) {
				continue
			}
			asked++
			for _, v := range edges {
				x := i
				*operand(&x, k) = v
				wantRule(t, 4, x)
			}
			x := i
			*operand(&x, k) = -1
			if strings.HasSuffix(word, "?") {
				wantRule(t, 0, x)
			} else {
				wantRule(t, 4, x)
			}
		}
	}
	if asked < 120 {
		t.Errorf("%d operands", asked)
	}
}

// P12.1, rule 4: -1 may stand in A of call, callc, return, in A and C of recv, and nowhere else.
func TestWhereNoneMayStand(t *testing.T) {
	for _, c := range []struct {
		i    code.Instr
		rule int
	}{
		{code.Instr{Op: 20, A: -1, B: 1, C: 3}, 0}, {code.Instr{Op: 20, A: -2, B: 1, C: 3}, 4}, {code.Instr{Op: 20, A: 0, B: 1, C: -1}, 4},
		{code.Instr{Op: 21, A: -1, B: 4}, 0}, {code.Instr{Op: 21, A: -2, B: 4}, 4}, {code.Instr{Op: 21, A: 0, B: -1}, 4}, {code.Instr{Op: 21, A: -1, B: 4, C: -1, D: 1}, 4},
		{code.Instr{Op: 22, A: -1}, 0}, {code.Instr{Op: 22, A: -2}, 4},
		{code.Instr{Op: 39, A: -1, B: 4, C: 0}, 0}, {code.Instr{Op: 39, A: 0, B: 4, C: -1}, 0}, {code.Instr{Op: 39, A: -1, B: 4, C: -1}, 0}, {code.Instr{Op: 39, A: -1, B: -1, C: -1}, 4}, {code.Instr{Op: 39, A: -2, B: 4, C: -1}, 4}, {code.Instr{Op: 39, A: -1, B: 4, C: -2}, 4},
		{code.Instr{Op: 1, A: -1, B: 0}, 4}, {code.Instr{Op: 1, A: 0, B: -1}, 4}, {code.Instr{Op: 24, A: -1}, 4}, {code.Instr{Op: 38, A: 4, B: -1}, 4}, {code.Instr{Op: 36, A: -1, B: 3}, 4}, {code.Instr{Op: 27, A: -1, B: 4}, 4},
	} {
		wantRule(t, c.rule, c.i)
	}
}

// wantRun wants a run from that slot on, of so many, to be there or not. Of a closure's arguments no kinds are asked.
func wantRun(t *testing.T, first, count int, there bool) {
	t.Helper()
	rule := 4
	if there {
		rule = 0
	}
	wantRule(t, rule, code.Instr{Op: 21, A: 0, B: 4, C: first, D: count})
	wantRule(t, rule, code.Instr{Op: 24, A: 4, B: first, C: count})
}

// P12.1, rule 4: a run, all of it.
func TestRuns(t *testing.T) {
	for first := range 11 {
		for count := range 11 {
			wantRun(t, first, count, count == 0 || first+count <= slotCount)
		}
	}
	for _, c := range [][2]int{
		{-1, 1}, {-1, 2}, {-1, 9}, {-8, 8}, {-8, 16}, {math.MinInt, 1}, {math.MinInt, 8}, {math.MinInt, math.MaxInt}, {math.MinInt + 8, math.MaxInt},
		{math.MaxInt, 1}, {math.MaxInt, 2}, {math.MaxInt, 8}, {math.MaxInt, 9}, {math.MaxInt, math.MaxInt}, {math.MaxInt - 1, 3}, {1 << 62, 1 << 62}, {1 << 62, 1<<62 + 4},
		{0, 64}, {0, 65}, {0, 66}, {0, 1000}, {0, math.MaxInt}, {1, math.MaxInt}, {2, math.MaxInt}, {7, math.MaxInt}, {8, math.MaxInt - 7}, {7, 2}, {8, 1}, {0, 1 << 32}, {1 << 32, 1}, {4, 1<<32 + 1},
	} {
		wantRun(t, c[0], c[1], false)
	}
	// A run of no slots names none, wherever it begins.
	for _, first := range append(edges, -1) {
		wantRun(t, first, 0, true)
	}
}

// P12.1, rule 4: the runs of call, go, closure are as long as the function says.
func TestRunsOfFunctions(t *testing.T) {
	for first := -3; first < 12; first++ {
		for n, f := range yard().Funcs {
			there := func(count int) bool { return count == 0 || first >= 0 && first+count <= slotCount }
			for _, x := range []struct {
				i     code.Instr
				there bool
			}{
				{code.Instr{Op: 20, A: -1, B: n, C: first}, there(f.Params)},
				{code.Instr{Op: 23, A: n, B: first}, there(f.Params)},
				{code.Instr{Op: 36, A: 4, B: n, C: first}, there(f.Caught)},
			} {
				// What else may be wrong is told by later rules.
				if got, _ := verify.Check(yardWith(x.i)); (got.Rule == 4) == x.there {
					t.Errorf("%s: %v", code.Show(x.i), got)
				}
			}
		}
	}
	for _, c := range []struct {
		i    code.Instr
		rule int
	}{
		{code.Instr{Op: 20, A: -1, B: 9, C: 0}, 0}, {code.Instr{Op: 20, A: -1, B: 9, C: 1}, 4}, {code.Instr{Op: 20, A: -1, B: 10, C: 0}, 4}, {code.Instr{Op: 20, A: -1, B: 2, C: 7}, 0}, {code.Instr{Op: 20, A: -1, B: 2, C: 8}, 4},
		{code.Instr{Op: 23, A: 9, B: 0}, 0}, {code.Instr{Op: 23, A: 9, B: -1}, 4}, {code.Instr{Op: 23, A: 10, B: 0}, 4}, {code.Instr{Op: 23, A: 5, B: 6}, 4},
		{code.Instr{Op: 36, A: 4, B: 11, C: 0}, 0}, {code.Instr{Op: 36, A: 4, B: 11, C: 1}, 4}, {code.Instr{Op: 36, A: 4, B: 12, C: 0}, 4}, {code.Instr{Op: 36, A: 4, B: 6, C: 7}, 0}, {code.Instr{Op: 36, A: 4, B: 6, C: 8}, 4},
	} {
		wantRule(t, c.rule, c.i)
	}
	for _, v := range append(edges, -1) {
		wantRule(t, 4, code.Instr{Op: 20, A: -1, B: 9, C: v})
		wantRule(t, 4, code.Instr{Op: 23, A: 9, B: v})
		wantRule(t, 4, code.Instr{Op: 36, A: 4, B: 11, C: v})
		// Nothing is handed on.
		wantRule(t, 0, code.Instr{Op: 20, A: -1, B: 3, C: v})
		wantRule(t, 0, code.Instr{Op: 23, A: 3, B: v})
		wantRule(t, 0, code.Instr{Op: 36, A: 4, B: 3, C: v})
	}
}

// P12.1, rule 4: a function of 64 slots, and one of none.
func TestManySlots(t *testing.T) {
	m := yard()
	m.Funcs[0] = function(0, 0, 0, strings.Repeat("n", 32)+strings.Repeat("a", 32))
	at := func(i code.Instr) code.Module {
		m.Funcs[0].Code = []code.Instr{poll(), i, end()}
		return mapped(m)
	}
	for _, v := range []int{0, 31, 32, 63, 64, 65, -1} {
		i := code.Instr{Op: 1, A: v, B: v}
		rule := 0
		if v < 0 || v > 63 {
			rule = 4
		}
		wantRuleIn(t, rule, at(i), i)
	}
	for _, i := range []code.Instr{{Op: 21, A: 63, B: 63, C: 0, D: 64}, {Op: 21, A: 0, B: 32, C: 63, D: 1}, {Op: 24, A: 63, B: 0, C: 64}, {Op: 24, A: 63, B: 64, C: 0}} {
		wantRuleIn(t, 0, at(i), i)
	}
	for _, i := range []code.Instr{{Op: 21, A: 63, B: 63, C: 0, D: 65}, {Op: 21, A: 0, B: 32, C: 63, D: 2}, {Op: 24, A: 63, B: 1, C: 64}, {Op: 24, A: 63, B: 64, C: 1}} {
		wantRuleIn(t, 4, at(i), i)
	}
	m = yard()
	m.Funcs[0] = function(0, 0, 0, "", poll(), code.Instr{Op: 2}, end())
	wantRuleIn(t, 4, mapped(m), m.Funcs[0].Code[1])
	m.Funcs[0].Code[1] = code.Instr{Op: 20, A: -1, B: 3}
	wantRuleIn(t, 0, mapped(m), m.Funcs[0].Code[1])
}

// yardCase is the yard whose function 0 has a select of three cases, the middle one of which is c.
func yardCase(c code.Case) code.Module {
	m := yardWith(choose(0, 3))
	m.Cases[0], m.Cases[1], m.Cases[2] = receives(4, 5, 2), c, sends(7, 6, 3)
	return mapped(m)
}

func wantCase(t *testing.T, rule int, c code.Case) {
	t.Helper()
	wantRuleIn(t, rule, yardCase(c), choose(0, 3))
}

// P12.1, rule 4: the slots of cases of each Kind.
func TestCaseSlots(t *testing.T) {
	for _, v := range append(edges, -1) {
		wantCase(t, 4, receives(v, 0, 2))
		wantCase(t, 4, sends(v, 0, 2))
		wantCase(t, 4, sends(4, v, 2))
		if v == -1 {
			wantCase(t, 0, receives(4, v, 2))
		} else {
			wantCase(t, 4, receives(4, v, 2))
		}
		// Nothing is asked of a default, nor of a Kind that there is not: that is rule 5's.
		wantCase(t, 0, code.Case{Kind: 2, Chan: v, Val: v, Target: 2})
		for _, kind := range []int{3, -1, math.MaxInt} {
			wantCase(t, 5, code.Case{Kind: kind, Chan: v, Val: v, Target: 2})
		}
	}
	for slot := range slotCount {
		wantCase(t, 0, receives(4, slot, 2))
		wantCase(t, 0, sends(7, slot, 2))
	}
	// Each of the cases is asked.
	for k := range 6 {
		m := yardWith(choose(0, 6))
		m.Cases[k] = receives(8, 0, 2)
		wantRuleIn(t, 4, mapped(m), choose(0, 6))
	}
	// Those that a select does not name are not.
	m := yardWith(choose(1, 3))
	m.Cases[0], m.Cases[4] = receives(99, 99, 99), sends(99, 99, 99)
	wantRuleIn(t, 0, mapped(m), choose(1, 3))
	if slices.Contains(edges, -1) {
		t.Errorf("-1 stands on its own")
	}
}
