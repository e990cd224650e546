package fresh_test

import (
	"slices"
	"strconv"
	"strings"
	"testing"

	"gantline/code"
	"gantline/fresh"
	"gantline/live"
)

// slots are the states of the slots from 0 to 63.
type slots [64]fresh.State

// change does something to the states of those of the slots that have one.
func (s *slots) change(list []int, how func(*fresh.State)) {
	for _, n := range list {
		if n >= 0 && n < 64 {
			how(&s[n])
		}
	}
}

func (s *slots) notOwn(list ...int) {
	s.change(list, func(x *fresh.State) { x.Own = false })
}

func (s *slots) become(state fresh.State, list ...int) {
	s.change(list, func(x *fresh.State) { *x = state })
}

func (s *slots) youngAt(n int) bool { return n >= 0 && n < 64 && s[n].Young }

// run are slots from the first on; more than 64 are none.
func run(first, count int) []int {
	var list []int
	for k := 0; k < count && count <= 64; k++ {
		list = append(list, first+k)
	}
	return list
}

// plainFunc is a function that may not be there.
func plainFunc(m code.Module, n int) code.Func {
	for k, f := range m.Funcs {
		if k == n {
			return f
		}
	}
	return code.Func{}
}

// plainCases are a select's, found by asking for each one.
func plainCases(m code.Module, i code.Instr) []code.Case {
	var list []code.Case
	for k, c := range m.Cases {
		if i.A >= 0 && k >= i.A && k-i.A < i.B {
			list = append(list, c)
		}
	}
	if len(list) != i.B {
		return nil
	}
	return list
}

// plainBehind is the chapter's list, line by line.
func plainBehind(m code.Module, i code.Instr, s slots) slots {
	name := code.Name(i.Op)
	if strings.Contains(" call callc go goc new array closure chan send recv select poll ", " "+name+" ") {
		for n := range s {
			s[n].Young = false
		}
	}
	switch name {
	case "new", "array", "chan":
		s.become(fresh.State{Young: true, Own: true}, i.A)
	case "closure":
		s.become(fresh.State{Young: true}, i.A)
		s.notOwn(run(i.C, plainFunc(m, i.B).Caught)...)
	case "move":
		s.become(fresh.State{Young: s.youngAt(i.B)}, i.A)
		s.notOwn(i.B)
	case "set", "setn":
		s.change([]int{i.A}, func(x *fresh.State) {
			for b := range 64 {
				if b == i.B {
					x.Written |= 1 << b
				}
			}
		})
		s.notOwn(i.C)
	case "put", "putn":
		s.change([]int{i.A}, func(x *fresh.State) { x.Written = 1<<64 - 1 })
		s.notOwn(i.C)
	case "store", "send":
		s.notOwn(i.B)
	case "call":
		s.notOwn(run(i.C, plainFunc(m, i.B).Params)...)
	case "callc":
		s.notOwn(append(run(i.C, i.D), i.B)...)
	case "go":
		s.notOwn(run(i.B, plainFunc(m, i.A).Params)...)
	case "goc":
		s.notOwn(append(run(i.B, i.C), i.A)...)
	case "return":
		s.notOwn(i.A)
	case "select":
		for _, c := range plainCases(m, i) {
			switch c.Kind {
			case 1:
				s.notOwn(c.Val)
			case 0:
				s.become(fresh.State{}, c.Val)
			}
		}
	}
	switch name {
	case "new", "array", "chan", "closure", "move":
	default:
		s.become(fresh.State{}, live.Writes(i)...)
	}
	return s
}

// plainMeet is what holds where the ways meet: there is at least one.
func plainMeet(ways []slots) slots {
	met := ways[0]
	for _, way := range ways[1:] {
		for n, x := range way {
			met[n] = fresh.State{Young: met[n].Young && x.Young, Own: met[n].Own && x.Own, Written: met[n].Written | x.Written}
		}
	}
	return met
}

// plainAhead asks of each instruction all that come to it, again and again, till nothing changes. One that no way reaches has nil.
func plainAhead(m code.Module, f code.Func) []*slots {
	ahead := make([]*slots, len(f.Code))
	from := make([][]int, len(f.Code))
	for pc := range f.Code {
		for _, next := range live.Follows(m, f, pc) {
			from[next] = append(from[next], pc)
		}
	}
	for changed := true; changed; {
		changed = false
		for pc := range f.Code {
			var ways []slots
			if pc == 0 {
				ways = append(ways, slots{})
			}
			for _, q := range from[pc] {
				if ahead[q] != nil {
					ways = append(ways, plainBehind(m, f.Code[q], *ahead[q]))
				}
			}
			if len(ways) == 0 {
				continue
			}
			if met := plainMeet(ways); ahead[pc] == nil || *ahead[pc] != met {
				ahead[pc], changed = &met, true
			}
		}
	}
	return ahead
}

func plainSets(m code.Module, f code.Func) [][]fresh.State {
	list := [][]fresh.State{}
	for _, s := range plainAhead(m, f) {
		if s == nil {
			s = new(slots)
		}
		count := 0
		for count < f.Slots && count < 64 {
			count++
		}
		list = append(list, slices.Clone(s[:count]))
	}
	return list
}

func plainSpare(m code.Module, f code.Func, pc int) bool {
	for k, i := range f.Code {
		name := code.Name(i.Op)
		if k != pc || name != "set" && name != "setn" && name != "put" && name != "putn" {
			continue
		}
		if i.A < 0 || i.A > 63 || i.C < 0 || i.C > 63 {
			return false
		}
		for n, kind := range f.Kinds {
			if n == i.C && !kind {
				return true
			}
		}
		s := plainAhead(m, f)[k]
		if s == nil || !s[i.A].Own || !s[i.C].Young {
			return false
		}
		if strings.HasPrefix(name, "put") {
			return s[i.A].Written == 0
		}
		for b := range 64 {
			if b == i.B && s[i.A].Written>>b%2 == 1 {
				return false
			}
		}
		return true
	}
	return false
}

func sameSets(a, b [][]fresh.State) bool {
	return slices.EqualFunc(a, b, func(x, y []fresh.State) bool { return slices.Equal(x, y) })
}

// tell writes states: Y is young, O own, then what was written, in base 16; - stands for none of these.
func tell(list []fresh.State) string {
	var words []string
	for _, x := range list {
		word := ""
		if x.Young {
			word += "Y"
		}
		if x.Own {
			word += "O"
		}
		if x.Written != 0 {
			word += strconv.FormatUint(x.Written, 16)
		}
		if word == "" {
			word = "-"
		}
		words = append(words, word)
	}
	return strings.Join(words, " ")
}

func tellAll(sets [][]fresh.State) string {
	var lines []string
	for _, list := range sets {
		lines = append(lines, tell(list))
	}
	return strings.Join(lines, " | ")
}

func show(f code.Func) string {
	var lines []string
	for _, i := range f.Code {
		lines = append(lines, code.Show(i))
	}
	return strings.Join(lines, "; ")
}

// wantPlain wants what is told of a function to be what the plain reckoning tells.
func wantPlain(t *testing.T, where string, m code.Module, f code.Func) {
	t.Helper()
	if got, want := fresh.Sets(m, f), plainSets(m, f); !sameSets(got, want) {
		t.Fatalf("%s: Sets of %s with cases %v:\n%s, want\n%s", where, show(f), m.Cases, tellAll(got), tellAll(want))
	}
	for pc := range f.Code {
		if got, want := fresh.Spare(m, f, pc), plainSpare(m, f, pc); got != want {
			t.Fatalf("%s: Spare(%d) of %s with cases %v, kinds %v: %v", where, pc, show(f), m.Cases, f.Kinds, got)
		}
	}
}

// wantSets wants these states, place by place.
func wantSets(t *testing.T, where string, m code.Module, f code.Func, want ...string) {
	t.Helper()
	if got := tellAll(fresh.Sets(m, f)); got != strings.Join(want, " | ") {
		t.Errorf("%s: Sets of %s:\n%s, want\n%s", where, show(f), got, strings.Join(want, " | "))
	}
	wantPlain(t, where, m, f)
}

// function has so many slots, all of addresses.
func function(count int, list ...code.Instr) code.Func {
	return code.Func{Slots: count, Kinds: slices.Repeat([]bool{true}, max(count, 0)), Code: list}
}
