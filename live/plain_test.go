package live_test

import (
	"slices"
	"strings"
	"testing"

	"gantline/code"
	"gantline/live"
)

// table is chapter 9's, with what chapter 10 says of each row: what is read, what is written, and where it goes on. A letter is the slot that the operand names, with ? unless that is -1; C*D is a run, from C on, D many; C*P(B), C*F(B): as many as function B has Params, or Caught.
const table = `const : A : next
move B : A : next
nil : A : next
add B C : A : next
sub B C : A : next
mul B C : A : next
div B C : A : next
mod B C : A : next
and B C : A : next
or B C : A : next
xor B C : A : next
shl B C : A : next
shr B C : A : next
lt B C : A : next
le B C : A : next
eq B C : A : next
same B C : A : next
not B : A : next
jump : : A
if A : : B next
call C*P(B) : A? : next
callc B C*D : A? : next
return A? : :
go B*P(A) : : next
goc A B*C : : next
new : A : next
array C : A : next
get B : A : next
set A C : : next
setn A C : : next
at B C : A : next
put A B C : : next
putn A B C : : next
len B : A : next
load : A : next
store B : : next
closure C*F(B) : A : next
chan C : A : next
send A B : : next
recv B : A? C? : next
close A : : next
select cases : : cases
print A : : next
poll : : next
trap : :`

// row is a row's three parts, cut into words.
type row struct{ reads, writes, follows []string }

var rows = cut(table)

func cut(text string) []row {
	var list []row
	for _, line := range strings.Split(text, "\n") {
		parts := strings.Split(line, ":")
		list = append(list, row{strings.Fields(parts[0])[1:], strings.Fields(parts[1]), strings.Fields(parts[2])})
	}
	return list
}

// rowOf is an Op's row; one that there is not goes on.
func rowOf(op int) row {
	if op < 0 || op >= len(rows) {
		return row{follows: []string{"next"}}
	}
	return rows[op]
}

func operand(i code.Instr, letter byte) int {
	return [...]int{i.A, i.B, i.C, i.D}[letter-'A']
}

// plainCases are a select's, found by asking for each one.
func plainCases(m code.Module, i code.Instr) []code.Case {
	var list []code.Case
	for k, c := range m.Cases {
		if k >= i.A && k-i.A < i.B && i.A >= 0 {
			list = append(list, c)
		}
	}
	if len(list) != i.B {
		return nil
	}
	return list
}

// plainCount is how many slots the word behind a star asks for.
func plainCount(m code.Module, i code.Instr, word string) int {
	if len(word) == 1 {
		return operand(i, word[0])
	}
	n := operand(i, word[2])
	for k, f := range m.Funcs {
		if k == n && word[0] == 'P' {
			return f.Params
		}
		if k == n {
			return f.Caught
		}
	}
	return 0
}

func plainSlots(m code.Module, i code.Instr, list []string) []int {
	var slots []int
	for _, word := range list {
		first, count, run := strings.Cut(word, "*")
		switch {
		case word == "cases":
			for _, c := range plainCases(m, i) {
				if c.Kind != 2 {
					slots = append(slots, c.Chan)
				}
				if c.Kind == 1 {
					slots = append(slots, c.Val)
				}
			}
		case run:
			n := plainCount(m, i, count)
			for k := 0; k < n && n <= 64; k++ {
				slots = append(slots, operand(i, first[0])+k)
			}
		case len(word) == 1 || operand(i, word[0]) != -1:
			slots = append(slots, operand(i, word[0]))
		}
	}
	return slots
}

func plainReads(m code.Module, i code.Instr) []int {
	return plainSlots(m, i, rowOf(i.Op).reads)
}

func plainWrites(i code.Instr) []int {
	return plainSlots(code.Module{}, i, rowOf(i.Op).writes)
}

// leads tells whether the instruction at pc may go on at place.
func leads(m code.Module, i code.Instr, pc, place int) bool {
	for _, word := range rowOf(i.Op).follows {
		switch word {
		case "next":
			if place-1 == pc {
				return true
			}
		case "cases":
			for _, c := range plainCases(m, i) {
				if c.Target == place {
					return true
				}
			}
		default:
			if operand(i, word[0]) == place {
				return true
			}
		}
	}
	return false
}

// plainFollows asks each place of the code.
func plainFollows(m code.Module, f code.Func, pc int) []int {
	var list []int
	for place := range f.Code {
		if pc >= 0 && pc < len(f.Code) && leads(m, f.Code[pc], pc, place) {
			list = append(list, place)
		}
	}
	return list
}

// step is one way on: to a place, with a slot written on it, or -1.
type step struct{ place, written int }

func plainSteps(m code.Module, f code.Func, pc int) []step {
	var list []step
	if code.Name(f.Code[pc].Op) != "select" {
		for _, place := range plainFollows(m, f, pc) {
			list = append(list, step{place, -1})
		}
		return list
	}
	for _, c := range plainCases(m, f.Code[pc]) {
		if c.Target < 0 || c.Target >= len(f.Code) {
			continue
		}
		if c.Kind == 0 {
			list = append(list, step{c.Target, c.Val})
		} else {
			list = append(list, step{c.Target, -1})
		}
	}
	return list
}

// later tells whether a slot may be read on one of the ways, by what is known of each place.
func later(in [][64]bool, steps []step, slot int) bool {
	for _, s := range steps {
		if in[s.place][slot] && s.written != slot {
			return true
		}
	}
	return false
}

// plainSets asks for each instruction and each slot, till nothing changes.
func plainSets(m code.Module, f code.Func) []uint64 {
	in := make([][64]bool, len(f.Code))
	for changed := true; changed; {
		changed = false
		for pc, i := range f.Code {
			reads, writes, steps := plainReads(m, i), plainWrites(i), plainSteps(m, f, pc)
			for slot := range 64 {
				if in[pc][slot] {
					continue
				}
				if slices.Contains(reads, slot) || !slices.Contains(writes, slot) && later(in, steps, slot) {
					in[pc][slot], changed = true, true
				}
			}
		}
	}
	sets := make([]uint64, len(f.Code))
	for pc := range in {
		power := uint64(1)
		for slot := range 64 {
			if in[pc][slot] {
				sets[pc] += power
			}
			power *= 2
		}
	}
	return sets
}

func plainMaps(m code.Module, f code.Func) []uint64 {
	maps := plainSets(m, f)
	for pc := range maps {
		for slot := range 64 {
			if slot >= len(f.Kinds) || !f.Kinds[slot] {
				maps[pc] &^= 1 << slot
			}
		}
	}
	return maps
}

// The table has every row, and their names are the chapter's.
func TestTable(t *testing.T) {
	lines := strings.Split(table, "\n")
	for op, line := range lines {
		if name := strings.Fields(line)[0]; name != code.Name(op) {
			t.Errorf("row %d: %q, want %q", op, name, code.Name(op))
		}
	}
	if len(lines) != 45 {
		t.Errorf("%d rows", len(lines))
	}
}

// wantPlain wants all that is told of a function to be what the plain reckoning tells.
func wantPlain(t *testing.T, where string, m code.Module, f code.Func) {
	t.Helper()
	for pc, i := range f.Code {
		if got, want := live.Reads(m, i), plainReads(m, i); !slices.Equal(got, want) {
			t.Fatalf("%s: Reads(%v): %v, want %v", where, i, got, want)
		}
		if got, want := live.Writes(i), plainWrites(i); !slices.Equal(got, want) {
			t.Fatalf("%s: Writes(%v): %v, want %v", where, i, got, want)
		}
		if got, want := live.Follows(m, f, pc), plainFollows(m, f, pc); !slices.Equal(got, want) {
			t.Fatalf("%s: Follows(%d), %v: %v, want %v", where, pc, i, got, want)
		}
	}
	if got, want := live.Sets(m, f), plainSets(m, f); !slices.Equal(got, want) {
		t.Fatalf("%s: Sets of %v with cases %v: %x, want %x", where, f.Code, m.Cases, got, want)
	}
	if got, want := live.Maps(m, f), plainMaps(m, f); !slices.Equal(got, want) {
		t.Fatalf("%s: Maps of %v with kinds %v: %x, want %x", where, f.Code, f.Kinds, got, want)
	}
}
