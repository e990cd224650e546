package verify_test

import (
	"slices"
	"strings"
	"testing"

	"gantline/code"
	"gantline/fresh"
	"gantline/head"
	"gantline/live"
	"gantline/verify"
)

// table is chapter 9's, with a word for each operand: n is a slot of a number, a of an address, s of either; with ? it may be -1; K a constant, G a global, F a function, T a trap, 0 1 3 a shape of that Kind; > a target; * a run's first slot, # how many it has; . any number; c a select's.
const table = `const n K
move s s
nil a
add n n n
sub n n n
mul n n n
div n n n
mod n n n
and n n n
or n n n
xor n n n
shl n n n
shr n n n
lt n n n
le n n n
eq n n n
same n a a
not n n
jump >
if n >
call s? F *
callc s? a * #
return s?
go F *
goc a * #
new a 0
array a 1 n
get s a .
set a . s
setn a . s
at s a n
put a n s
putn a n s
len n a
load s G
store G s
closure a F *
chan a 3 n
send a s
recv s? a n?
close a
select c c
print n
poll
trap T`

var lines = strings.Split(table, "\n")

// words are those of an Op's operands.
func words(op int) []string {
	if op < 0 || op >= len(lines) {
		return nil
	}
	return strings.Fields(lines[op])[1:]
}

// The table has every row, and their names are the chapter's.
func TestTable(t *testing.T) {
	for op, line := range lines {
		i := code.Instr{Op: op}
		if fields := strings.Fields(line); fields[0] != code.Name(op) || len(fields) != len(strings.Fields(code.Show(i))) {
			t.Errorf("row %d: %q, want %q", op, line, code.Show(i))
		}
	}
	if len(lines) != 45 {
		t.Errorf("%d rows", len(lines))
	}
}

// found is what has been found wrong: a fault at a place may be told by several rules.
type found struct {
	m    code.Module
	list []verify.Fault
}

func (w *found) unless(holds bool, fn, pc, rule int) {
	if !holds {
		w.list = append(w.list, verify.Fault{Func: fn, PC: pc, Rule: rule})
	}
}

// plainCheck asks everything of everything, and takes the least fault.
func plainCheck(m code.Module) verify.Fault {
	w := &found{m: m}
	w.lists()
	if len(w.list) == 0 {
		w.main()
	}
	for n := range m.Funcs {
		w.whole(n)
	}
	if len(w.list) == 0 {
		for n, f := range m.Funcs {
			w.instructions(n, f)
		}
	}
	if len(w.list) == 0 {
		return verify.Fault{}
	}
	return slices.MinFunc(w.list, func(a, b verify.Fault) int {
		return slices.Compare(rank(a), rank(b))
	})
}

// rank is by which faults are put in order.
func rank(f verify.Fault) []int {
	if f.Rule <= 3 {
		return []int{f.Rule, f.Func}
	}
	return []int{4, f.Func, f.PC, f.Rule}
}

func (w *found) lists() {
	for _, s := range w.m.Shapes {
		w.unless(head.Good(s), -1, -1, 1)
	}
	for _, v := range w.m.Consts {
		w.unless(v >= -4611686018427387904 && v <= 4611686018427387903, -1, -1, 1)
	}
	for _, limit := range [][2]int{{len(w.m.Shapes), 1024}, {len(w.m.Globals), 256}, {len(w.m.Consts), 4096}, {len(w.m.Cases), 1024}, {len(w.m.Funcs), 128}, {1, len(w.m.Funcs)}} {
		w.unless(limit[0] <= limit[1], -1, -1, 1)
	}
}

func (w *found) main() {
	there := false
	for n, f := range w.m.Funcs {
		if n == w.m.Main {
			there = f.Params == 0 && f.Caught == 0 && f.Result == 0
		}
	}
	w.unless(there, -1, -1, 2)
}

func (w *found) whole(n int) {
	f := w.m.Funcs[n]
	// In floats nothing wraps round, and what is lost of great numbers does no harm here.
	sum := float64(f.Params) + float64(f.Caught)
	w.unless(f.Params >= 0 && f.Caught >= 0 && f.Caught <= 62, n, -1, 3)
	w.unless(sum <= float64(f.Slots) && f.Slots <= 64 && len(f.Kinds) == f.Slots, n, -1, 3)
	w.unless(f.Result == 0 || f.Result == 1 || f.Result == 2, n, -1, 3)
	w.unless(len(f.Code) > 0 && len(f.Code) <= 4096 && len(f.Code) == len(f.Maps), n, -1, 3)
}

func (w *found) instructions(n int, f code.Func) {
	maps := live.Maps(w.m, f)
	for pc, i := range f.Code {
		at := spot{w, n, pc, f, i}
		at.ask()
		at.unless(f.Maps[pc] == maps[pc], 9)
		if name := code.Name(i.Op); name == "setn" || name == "putn" {
			at.unless(fresh.Spare(w.m, f, pc), 10)
		}
	}
}

// spot is an instruction at its place.
type spot struct {
	w     *found
	n, pc int
	f     code.Func
	i     code.Instr
}

func (s spot) unless(holds bool, rule int) { s.w.unless(holds, s.n, s.pc, rule) }

// ask is rules 4 to 8.
func (s spot) ask() {
	name := code.Name(s.i.Op)
	s.unless(name != "", 4)
	for k, word := range words(s.i.Op) {
		s.operand(word, *operand(&s.i, k))
	}
	s.row(name)
	for _, place := range s.targets() {
		inside := place >= 0 && place < len(s.f.Code)
		s.unless(inside, 7)
		s.unless(!inside || place > s.pc || code.Name(s.f.Code[place].Op) == "poll", 8)
	}
	if s.pc == len(s.f.Code)-1 {
		s.unless(slices.Contains([]string{"jump", "return", "trap", "select"}, name), 7)
	}
}

// slot asks for a slot of a kind: n, a, or s of either.
func (s spot) slot(v int, kind string) {
	there := v >= 0 && v < s.f.Slots
	s.unless(there, 4)
	s.unless(!there || kind == "s" || s.f.Kinds[v] == (kind == "a"), 6)
}

func (s spot) operand(word string, v int) {
	m := s.w.m
	in := func(count int) bool { return v >= 0 && v < count }
	switch word {
	case "n", "a", "s":
		s.slot(v, word)
	case "n?", "s?":
		if v != -1 {
			s.slot(v, word[:1])
		}
	case "K":
		s.unless(in(len(m.Consts)), 5)
	case "G":
		s.unless(in(len(m.Globals)), 5)
	case "F":
		s.unless(in(len(m.Funcs)), 5)
	case "T":
		s.unless(v == 1 || v == 2 || v == 3 || v == 4 || v == 5 || v == 6, 5)
	case "0", "1", "3":
		s.unless(in(len(m.Shapes)) && m.Shapes[v].Kind == int(word[0]-'0'), 5)
	case "#":
		s.unless(v > -1, 5)
	}
}

// kindOf is n or a for a bool.
func kindOf(address bool) string {
	if address {
		return "a"
	}
	return "n"
}

// function is one that may not be there: then false, and one of nothing.
func (s spot) function(n int) (code.Func, bool) {
	for k, f := range s.w.m.Funcs {
		if k == n {
			return f, true
		}
	}
	return code.Func{}, false
}

// run asks for slots from the first on, of these kinds.
func (s spot) run(first int, kinds []bool) {
	for k, kind := range kinds {
		s.slot(first+k, kindOf(kind))
	}
}

// runOfAny asks for so many slots of either kind; behind the 65th nothing new can be told.
func (s spot) runOfAny(first, count int) {
	for k := 0; k < count && k < 65; k++ {
		s.slot(first+k, "s")
	}
}

// row is what the rules say of some rows beside their words.
func (s spot) row(name string) {
	i, m := s.i, s.w.m
	switch name {
	case "move":
		s.sameKind(i.A, i.B)
	case "call":
		f, there := s.function(i.B)
		s.unless(f.Caught == 0, 5)
		s.run(i.C, f.Kinds[:f.Params])
		if there && i.A != -1 {
			s.result(i.A, f.Result)
		}
	case "callc":
		s.runOfAny(i.C, i.D)
	case "return":
		if i.A == -1 {
			s.unless(s.f.Result == 0, 6)
		} else {
			s.result(i.A, s.f.Result)
		}
	case "go":
		f, _ := s.function(i.A)
		s.unless(f.Caught == 0 && f.Result == 0, 5)
		s.run(i.B, f.Kinds[:f.Params])
	case "goc":
		s.runOfAny(i.B, i.C)
	case "load":
		if i.B >= 0 && i.B < len(m.Globals) {
			s.slot(i.A, kindOf(m.Globals[i.B]))
		}
	case "store":
		if i.A >= 0 && i.A < len(m.Globals) {
			s.slot(i.B, kindOf(m.Globals[i.A]))
		}
	case "closure":
		f, _ := s.function(i.B)
		s.run(i.C, f.Kinds[f.Params:f.Params+f.Caught])
	case "select":
		s.cases()
	}
}

func (s spot) sameKind(a, b int) {
	if a >= 0 && a < s.f.Slots && b >= 0 && b < s.f.Slots {
		s.unless(s.f.Kinds[a] == s.f.Kinds[b], 6)
	}
}

// result asks for a slot that gets, or gives, a Result.
func (s spot) result(slot, result int) {
	s.unless(result != 0, 6)
	if result != 0 {
		s.slot(slot, kindOf(result == 2))
	}
}

// numbers are those of a select's cases, which may not be there; behind 2000 nothing new can be told.
func numbers(i code.Instr) []int {
	var list []int
	for k := 0; k < i.B && k < 2000 && code.Name(i.Op) == "select"; k++ {
		list = append(list, i.A+k)
	}
	return list
}

// all are a select's cases; none, if they are not all there.
func (s spot) all() []code.Case {
	var list []code.Case
	for _, n := range numbers(s.i) {
		if n < 0 || n >= len(s.w.m.Cases) {
			return nil
		}
		list = append(list, s.w.m.Cases[n])
	}
	return list
}

func (s spot) cases() {
	s.unless(len(s.all()) > 0, 5)
	defaults := 0
	for _, c := range s.all() {
		switch c.Kind {
		case 0, 1:
			s.slot(c.Chan, "a")
			if c.Kind == 1 || c.Val != -1 {
				s.slot(c.Val, "s")
			}
		case 2:
			defaults++
		default:
			s.unless(false, 5)
		}
	}
	s.unless(defaults < 2, 5)
	for _, n := range numbers(s.i) {
		s.unless(!s.namedAhead(n), 5)
	}
}

// namedAhead asks every instruction ahead of this one for a case.
func (s spot) namedAhead(number int) bool {
	for n, f := range s.w.m.Funcs[:s.n+1] {
		for pc, i := range f.Code {
			if (n < s.n || pc < s.pc) && slices.Contains(numbers(i), number) {
				return true
			}
		}
	}
	return false
}

func (s spot) targets() []int {
	switch code.Name(s.i.Op) {
	case "jump":
		return []int{s.i.A}
	case "if":
		return []int{s.i.B}
	}
	var list []int
	for _, c := range s.all() {
		list = append(list, c.Target)
	}
	return list
}
