package verify_test

import (
	"runtime"
	"slices"
	"strings"
	"testing"

	"gantline/code"
	"gantline/head"
	"gantline/verify"
)

// taken is how much memory a call takes in all.
func taken(call func()) uint64 {
	var before, behind runtime.MemStats
	runtime.ReadMemStats(&before)
	call()
	runtime.ReadMemStats(&behind)
	return behind.TotalAlloc - before.TotalAlloc
}

// wantLittle wants that fault, and that finding it takes at most so many bytes.
func wantLittle(t *testing.T, m code.Module, want verify.Fault, most uint64) {
	t.Helper()
	var got verify.Fault
	if took := taken(func() { got, _ = verify.Check(m) }); took > most {
		t.Errorf("Check took %d bytes", took)
	}
	if got != want {
		t.Errorf("%v, want %v", got, want)
	}
}

// R1: as many writes without barrier as may be: what is known of them is asked once.
func TestManySpares(t *testing.T) {
	var list []code.Instr
	for len(list) < 4092 {
		list = append(list, made(4), made(5), setn(4, 0, 5))
	}
	m := written(append(list, made(5), made(4), setn(4, 0, 4))...)
	if size := len(m.Funcs[0].Code); size != 4096 {
		t.Fatalf("%d instructions", size)
	}
	wantLittle(t, m, verify.Fault{}, 1<<26)
	m.Funcs[0].Code[4094] = setn(4, 0, 5)
	wantLittle(t, mapped(m), fault(0, 4094, 10), 1<<26)
}

// P12.1: all lists as long as they may be: MaxFuncs functions of MaxCode instructions, with loops over 64 slots; the last of all instructions is asked too.
func TestGreatModule(t *testing.T) {
	m := code.Module{Shapes: make([]head.Shape, 1024), Globals: make([]bool, 256), Consts: make([]int64, 4096), Cases: make([]code.Case, 1024), Main: 127}
	f := function(0, 0, 0, strings.Repeat("na", 32))
	f.Code = slices.Repeat([]code.Instr{poll()}, 4095)
	for pc := 1; pc < 4092; pc += 4 {
		k := pc / 4 % 32
		f.Code[pc] = code.Instr{Op: 25, A: 2*k + 1, B: 1023}
		f.Code[pc+1] = code.Instr{Op: 0, A: 2 * k, B: 4095}
		f.Code[pc+2] = when(2*k, pc-1)
	}
	f.Code = append(f.Code, end())
	m.Funcs = slices.Repeat([]code.Func{f}, 128)
	m = mapped(m)
	wantGood(t, "great", m)
	m.Funcs[127].Code = slices.Clone(m.Funcs[127].Code)
	m.Funcs[127].Code[4095] = poll()
	wantFault(t, "great, but for the last", mapped(m), fault(127, 4095, 7))
}

// P12.1: all cases in one select, in a select each, and the last of them twice.
func TestManyCases(t *testing.T) {
	m := code.Module{Funcs: []code.Func{function(0, 0, 0, "a")}}
	for range 1024 {
		m.Cases = append(m.Cases, receives(0, 0, 1025))
	}
	m.Funcs[0].Code = append(slices.Repeat([]code.Instr{poll()}, 1026), end())
	m.Funcs[0].Code[0] = choose(0, 1024)
	wantGood(t, "one select", mapped(m))
	m.Funcs[0].Code[1] = choose(1023, 1)
	wantFault(t, "the last one twice", mapped(m), fault(0, 1, 5))
	m.Cases[1023], m.Cases[0] = otherwise(1025), otherwise(1025)
	wantFault(t, "two defaults, far apart", mapped(m), fault(0, 0, 5))
	for k := range 1024 {
		m.Funcs[0].Code[k] = choose(k, 1)
	}
	wantGood(t, "a select each", mapped(m))
	m.Funcs[0].Code[1024] = choose(500, 2)
	wantFault(t, "one more", mapped(m), fault(0, 1024, 5))
}

// R1: a module that is wrong in great numbers takes no more memory than what it is made of.
func TestGreatNumbers(t *testing.T) {
	for _, n := range []int{1 << 31, 1 << 40, 1<<63 - 1, -1 << 63} {
		for _, i := range []code.Instr{{Op: 21, A: 0, B: 4, C: 0, D: n}, {Op: 24, A: 4, B: 0, C: n}, {Op: 41, A: 0, B: n}, {Op: 41, A: n, B: n}, {Op: 20, A: n, B: n, C: n}} {
			m := yardWith(i)
			got, ok := verify.Check(m)
			if took := taken(func() { verify.Check(m) }); took > 1<<18 || ok || got.PC != place {
				t.Errorf("%s: %d bytes, %v", code.Show(i), took, got)
			}
		}
		m := yard()
		m.Funcs[3].Params, m.Funcs[3].Caught, m.Funcs[3].Slots = n, n, n
		wantLittle(t, m, ofFunc(3), 1<<18)
	}
}
