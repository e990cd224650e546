package code_test

import (
	"math"
	"strconv"
	"strings"
	"testing"

	"gantline/code"
)

// table is the chapter's, line by line: each name, and the operands that its row names.
const table = `const A B
move A B
nil A
add A B C
sub A B C
mul A B C
div A B C
mod A B C
and A B C
or A B C
xor A B C
shl A B C
shr A B C
lt A B C
le A B C
eq A B C
same A B C
not A B
jump A
if A B
call A B C
callc A B C D
return A
go A B
goc A B C
new A B
array A B C
get A B C
set A B C
setn A B C
at A B C
put A B C
putn A B C
len A B
load A B
store A B
closure A B C
chan A B C
send A B
recv A B C
close A
select A B
print A
poll
trap A`

// tableRows are its lines, cut into words.
func tableRows(t *testing.T) [][]string {
	t.Helper()
	var list [][]string
	for _, line := range strings.Split(table, "\n") {
		list = append(list, strings.Fields(line))
	}
	if len(list) != 45 {
		t.Fatalf("the table has %d rows", len(list))
	}
	return list
}

// outside are numbers that no row has.
func outside() []int {
	list := []int{math.MinInt, math.MinInt + 1, -1 << 32, math.MaxInt - 1, math.MaxInt, 1 << 32, 1<<32 + 3}
	for k := 1; k <= 300; k++ {
		list = append(list, -k, 44+k)
	}
	return list
}

// P9.1
func TestName(t *testing.T) {
	for op, row := range tableRows(t) {
		if got := code.Name(op); got != row[0] {
			t.Errorf("Name(%d): %q, want %q", op, got, row[0])
		}
	}
	for _, op := range outside() {
		if got := code.Name(op); got != "" {
			t.Errorf("Name(%d): %q", op, got)
		}
	}
}

// P9.1
func TestPointMaker(t *testing.T) {
	points := map[int]string{20: "call", 21: "callc", 23: "go", 24: "goc", 25: "new", 26: "array", 36: "closure", 37: "chan", 38: "send", 39: "recv", 41: "select", 43: "poll"}
	makers := map[int]string{25: "new", 26: "array", 36: "closure", 37: "chan"}
	rows := tableRows(t)
	for op, row := range rows {
		if got, want := code.Point(op), points[op] == row[0]; got != want {
			t.Errorf("Point(%d), %s: %t, want %t", op, row[0], got, want)
		}
		if got, want := code.Maker(op), makers[op] == row[0]; got != want {
			t.Errorf("Maker(%d), %s: %t, want %t", op, row[0], got, want)
		}
	}
	for _, op := range outside() {
		if code.Point(op) || code.Maker(op) {
			t.Errorf("Point(%d): %t, Maker: %t", op, code.Point(op), code.Maker(op))
		}
	}
}

// P9.1: the example, and some written out.
func TestShow(t *testing.T) {
	for _, c := range []struct {
		i    code.Instr
		want string
	}{
		{code.Instr{Op: 3, A: 1, B: 2, C: 3}, "add 1 2 3"},
		{code.Instr{}, "const 0 0"},
		{code.Instr{Op: 2, A: 7}, "nil 7"},
		{code.Instr{Op: 20, A: -1, B: 10, C: 63}, "call -1 10 63"},
		{code.Instr{Op: 21, A: 1, B: 22, C: 333, D: 4444}, "callc 1 22 333 4444"},
		{code.Instr{Op: 22, A: -1}, "return -1"},
		{code.Instr{Op: 39, A: -1, B: 5, C: -1}, "recv -1 5 -1"},
		{code.Instr{Op: 43}, "poll"},
		{code.Instr{Op: 43, A: 1, B: 2, C: 3, D: 4}, "poll"},
		{code.Instr{Op: 44, A: 6, B: 9}, "trap 6"},
	} {
		if got := code.Show(c.i); got != c.want {
			t.Errorf("Show(%v): %q, want %q", c.i, got, c.want)
		}
	}
}

// P9.1: of each row, at every mixture of operands' edges.
func TestShowRows(t *testing.T) {
	values := []int{0, -1, 1, 10, math.MinInt, math.MaxInt}
	for op, row := range tableRows(t) {
		for n := range len(values) * len(values) * len(values) * len(values) {
			v := len(values)
			i := code.Instr{Op: op, A: values[n%v], B: values[n/v%v], C: values[n/v/v%v], D: values[n/v/v/v]}
			operands := map[string]int{"A": i.A, "B": i.B, "C": i.C, "D": i.D}
			want := row[0]
			for _, name := range row[1:] {
				want += " " + strconv.Itoa(operands[name])
			}
			if got := code.Show(i); got != want {
				t.Fatalf("Show(%v): %q, want %q", i, got, want)
			}
		}
	}
}

// P9.1: an instruction that there is not has no name, and its row names no operands.
func TestShowOutside(t *testing.T) {
	for _, op := range outside() {
		for _, v := range []int{0, 1, -1, math.MaxInt} {
			if got := code.Show(code.Instr{Op: op, A: v, B: v, C: v, D: v}); got != "" {
				t.Errorf("Show(%d with operands %d): %q", op, v, got)
			}
		}
	}
}
