// Package bits: shifts and widths: see DOC.md, chapter 1.
package bits

import mathbits "math/bits"

const (
	maxShift  = 62 // a machine's number has 63 bits: one moved further has none left
	wordBits  = 64
	byteBits  = 7   // of a number, in each byte that Put writes
	more      = 128 // in a byte: another one follows
	lastByte  = 9   // the tenth: nine bytes hold 63 bits, so it has room for one bit
	mostBytes = lastByte + 1
)

// Wrap makes a number one of the machine's.
func Wrap(v int64) int64 {
	// The shift down brings bit 62 back as the sign.
	return v << 1 >> 1
}

// Add adds.
func Add(a, b int64) int64 {
	// The sum is exact modulo 2^64, so modulo 2^63 too: neither side needs to be wrapped first. So with Sub, Mul and Shl.
	return Wrap(a + b)
}

// Sub subtracts.
func Sub(a, b int64) int64 { return Wrap(a - b) }

// Mul multiplies.
func Mul(a, b int64) int64 { return Wrap(a * b) }

// Div divides.
func Div(a, b int64) (int64, bool) {
	a, b = Wrap(a), Wrap(b)
	if b == 0 {
		return 0, false
	}
	// -2^62 by -1 is 2^62, one past the greatest.
	return Wrap(a / b), true
}

// Mod tells what is left.
func Mod(a, b int64) (int64, bool) {
	a, b = Wrap(a), Wrap(b)
	if b == 0 {
		return 0, false
	}
	return a % b, true
}

// Shl shifts up.
func Shl(a, n int64) int64 {
	if n < 0 || n > maxShift {
		return 0
	}
	return Wrap(a << n)
}

// Shr shifts down.
func Shr(a, n int64) int64 {
	if n < 0 || n > maxShift {
		n = maxShift // leaves the sign alone: 0 or -1
	}
	return Wrap(a) >> n
}

// Field tells some bits.
func Field(w uint64, at, n int) uint64 {
	if !inside(at, n) {
		return 0
	}
	return w >> at & low(n)
}

// With sets some bits.
func With(w uint64, at, n int, v uint64) uint64 {
	if !inside(at, n) {
		return w
	}
	mask := low(n) << at
	return w&^mask | v<<at&mask
}

// inside tells if a word has n bits from at on.
func inside(at, n int) bool {
	// at + n could wrap round; wordBits - n cannot, as n is not below 0.
	return at >= 0 && n >= 0 && at <= wordBits-n
}

// low is the word whose lowest n bits are 1.
func low(n int) uint64 { return 1<<n - 1 }

// Ones counts bits.
func Ones(w uint64) int { return mathbits.OnesCount64(w) }

// First finds the first bit that is 0.
func First(w uint64) int { return mathbits.TrailingZeros64(^w) }

// Next finds the next bit that is 1.
func Next(w uint64, from int) int {
	from = max(from, 0)
	return mathbits.TrailingZeros64(w >> from << from)
}

// Zig makes a number with a sign one without.
func Zig(v int64) uint64 {
	// Below 0, -2 v - 1 is 2 v with every bit turned; v >> 63 is then all ones.
	return uint64(v<<1) ^ uint64(v>>63)
}

// Zag makes it one with a sign.
func Zag(u uint64) int64 { return int64(u>>1) ^ -int64(u&1) }

// Put writes a number.
func Put(b []byte, u uint64) []byte {
	// A copy, so that spare room behind b stays as it is.
	out := make([]byte, len(b), len(b)+mostBytes)
	copy(out, b)
	for u >= more {
		out = append(out, byte(u)|more)
		u >>= byteBits
	}
	return append(out, byte(u))
}

// Take reads one.
func Take(b []byte) (uint64, int) {
	u := uint64(0)
	for i, c := range b {
		// This refuses an eleventh byte as well: a tenth that asks for one is above 1.
		if i == lastByte && c > 1 {
			return 0, 0
		}
		u |= uint64(c&^more) << (i * byteBits)
		if c >= more {
			continue
		}
		// A last byte of 0 would be a second way to write the number.
		if c == 0 && i > 0 {
			return 0, 0
		}
		return u, i + 1
	}
	return 0, 0
}
