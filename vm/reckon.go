package vm

import (
	"gantline/api"
	"gantline/bits"
	"gantline/op"
)

// reckon is what an instruction of two words answers.
func reckon(o int, b, c int64) (int64, api.Trap) {
	switch o {
	case op.Add:
		return bits.Add(b, c), api.TrapNone
	case op.Sub:
		return bits.Sub(b, c), api.TrapNone
	case op.Mul:
		return bits.Mul(b, c), api.TrapNone
	case op.Div:
		return divided(bits.Div(b, c))
	case op.Mod:
		return divided(bits.Mod(b, c))
	case op.And:
		return bits.Wrap(b & c), api.TrapNone
	case op.Or:
		return bits.Wrap(b | c), api.TrapNone
	case op.Xor:
		return bits.Wrap(b ^ c), api.TrapNone
	case op.Shl:
		return bits.Shl(b, c), api.TrapNone
	case op.Shr:
		return bits.Shr(b, c), api.TrapNone
	case op.Lt:
		return oneIf(b < c), api.TrapNone
	case op.Le:
		return oneIf(b <= c), api.TrapNone
	case op.Eq, op.Same:
		return oneIf(b == c), api.TrapNone
	}
	return 0, api.TrapNone
}

func divided(v int64, ok bool) (int64, api.Trap) {
	if !ok {
		return 0, api.TrapZero
	}
	return v, api.TrapNone
}

func oneIf(yes bool) int64 {
	if yes {
		return 1
	}
	return 0
}
