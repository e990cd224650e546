package op_test

import (
	"strings"
	"testing"

	"gantline/code"
	"gantline/op"
)

// Each number's name is the chapter's, and there are no more.
func TestNumbers(t *testing.T) {
	numbers := []int{
		op.Const, op.Move, op.Nil,
		op.Add, op.Sub, op.Mul, op.Div, op.Mod, op.And, op.Or, op.Xor, op.Shl, op.Shr,
		op.Lt, op.Le, op.Eq, op.Same, op.Not,
		op.Jump, op.If, op.Call, op.Callc, op.Return, op.Go, op.Goc,
		op.New, op.Array, op.Get, op.Set, op.Setn, op.At, op.Put, op.Putn, op.Len,
		op.Load, op.Store, op.Closure,
		op.Chan, op.Send, op.Recv, op.Close, op.Select,
		op.Print, op.Poll, op.Trap,
	}
	const names = "const move nil add sub mul div mod and or xor shl shr lt le eq same not jump if call callc return go goc new array get set setn at put putn len load store closure chan send recv close select print poll trap"
	for k, name := range strings.Fields(names) {
		if numbers[k] != k || code.Name(numbers[k]) != name {
			t.Errorf("%s: %d, which is %q, want %d", name, numbers[k], code.Name(numbers[k]), k)
		}
	}
	if code.Name(len(numbers)) != "" {
		t.Errorf("%q has no number", code.Name(len(numbers)))
	}
}

// P9.1: of a Case.
func TestCases(t *testing.T) {
	if op.CaseRecv != 0 || op.CaseSend != 1 || op.CaseDefault != 2 || op.None != -1 {
		t.Errorf("%d, %d, %d, %d", op.CaseRecv, op.CaseSend, op.CaseDefault, op.None)
	}
}
