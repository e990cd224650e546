package bits_test

import (
	"math"
	"math/big"
	"testing"

	"gantline/bits"
)

const (
	least    = -1 << 62
	greatest = 1<<62 - 1
)

// many gives n words that look thrown together and are the same in each run.
func many(n int) []uint64 {
	words := make([]uint64, n)
	w := uint64(0x9E3779B97F4A7C15)
	for k := range words {
		w ^= w << 13
		w ^= w >> 7
		w ^= w << 17
		words[k] = w
	}
	return words
}

// edges are numbers at which a width ends, and some ordinary ones.
func edges() []int64 {
	list := []int64{3, -3, 5, -5, 7, -7, 10, -10, 12345, -12345, 3037000499, 3037000500, -3037000500}
	for _, k := range []int{0, 1, 7, 31, 32, 61, 62, 63} {
		p := int64(1) << k
		list = append(list, p, p-1, p+1, -p, -p-1, -p+1)
	}
	for _, w := range many(20) {
		list = append(list, int64(w), int64(w)>>20)
	}
	return list
}

// modulo reckons v modulo 2^63 as a number from -2^62 to 2^62 - 1, without a shift.
func modulo(v *big.Int) int64 {
	whole := new(big.Int).Exp(big.NewInt(2), big.NewInt(63), nil)
	half := new(big.Int).Exp(big.NewInt(2), big.NewInt(62), nil)
	r := new(big.Int).Add(v, half)
	r.Mod(r, whole)
	return r.Sub(r, half).Int64()
}

func wide(v int64) *big.Int { return big.NewInt(modulo(big.NewInt(v))) }

// P1.1
func TestWrap(t *testing.T) {
	for _, c := range []struct{ v, want int64 }{
		{0, 0}, {1, 1}, {-1, -1}, {42, 42},
		{greatest, greatest}, {least, least},
		{greatest + 1, least}, {least - 1, greatest},
		{greatest + 2, least + 1}, {least - 2, greatest - 1},
		{math.MaxInt64, -1}, {math.MaxInt64 - 1, -2},
		{math.MinInt64, 0}, {math.MinInt64 + 1, 1},
	} {
		if got := bits.Wrap(c.v); got != c.want {
			t.Errorf("Wrap(%d): %d, want %d", c.v, got, c.want)
		}
	}
	for _, v := range edges() {
		got := bits.Wrap(v)
		if got != modulo(big.NewInt(v)) || bits.Wrap(got) != got {
			t.Errorf("Wrap(%d): %d", v, got)
		}
	}
}

// P1.1
func TestAddSubMul(t *testing.T) {
	for _, c := range []struct{ a, b, sum, difference, product int64 }{
		{3, 4, 7, -1, 12},
		{-3, 4, 1, -7, -12},
		{greatest, 1, least, greatest - 1, greatest},
		{least, 1, least + 1, greatest, least},
		{least, -1, greatest, least + 1, least},
		{least, least, 0, 0, 0},
		{greatest, greatest, -2, 0, 1},
		{1 << 31, 1 << 31, 1 << 32, 0, least},
		{math.MaxInt64, math.MaxInt64, -2, 0, 1},
		{math.MinInt64, 5, 5, -5, 0},
	} {
		if got := bits.Add(c.a, c.b); got != c.sum {
			t.Errorf("Add(%d, %d): %d, want %d", c.a, c.b, got, c.sum)
		}
		if got := bits.Sub(c.a, c.b); got != c.difference {
			t.Errorf("Sub(%d, %d): %d, want %d", c.a, c.b, got, c.difference)
		}
		if got := bits.Mul(c.a, c.b); got != c.product {
			t.Errorf("Mul(%d, %d): %d, want %d", c.a, c.b, got, c.product)
		}
	}
	for _, a := range edges() {
		for _, b := range edges() {
			x, y := wide(a), wide(b)
			if got, want := bits.Add(a, b), modulo(new(big.Int).Add(x, y)); got != want {
				t.Errorf("Add(%d, %d): %d, want %d", a, b, got, want)
			}
			if got, want := bits.Sub(a, b), modulo(new(big.Int).Sub(x, y)); got != want {
				t.Errorf("Sub(%d, %d): %d, want %d", a, b, got, want)
			}
			if got, want := bits.Mul(a, b), modulo(new(big.Int).Mul(x, y)); got != want {
				t.Errorf("Mul(%d, %d): %d, want %d", a, b, got, want)
			}
		}
	}
}

// P1.1
func TestDivMod(t *testing.T) {
	for _, c := range []struct{ a, b, quotient, rest int64 }{
		{7, 2, 3, 1}, {-7, 2, -3, -1}, {7, -2, -3, 1}, {-7, -2, 3, -1},
		{0, 5, 0, 0}, {0, -5, 0, 0}, {3, 5, 0, 3}, {-3, 5, 0, -3},
		{least, -1, least, 0}, {least, 1, least, 0},
		{greatest, -1, -greatest, 0}, {least, greatest, -1, -1},
		{greatest, least, 0, greatest}, {least, least, 1, 0},
		// Both are wrapped ahead of it.
		{math.MaxInt64, 1, -1, 0}, {1 << 62, 3, least / 3, least % 3},
		{10, math.MaxInt64, -10, 0}, {math.MinInt64, math.MaxInt64, 0, 0},
		{math.MinInt64 + 9, 4, 2, 1},
	} {
		if got, ok := bits.Div(c.a, c.b); got != c.quotient || !ok {
			t.Errorf("Div(%d, %d): %d, %t, want %d", c.a, c.b, got, ok, c.quotient)
		}
		if got, ok := bits.Mod(c.a, c.b); got != c.rest || !ok {
			t.Errorf("Mod(%d, %d): %d, %t, want %d", c.a, c.b, got, ok, c.rest)
		}
	}
	for _, a := range edges() {
		for _, b := range edges() {
			x, y := wide(a), wide(b)
			if y.Sign() == 0 {
				continue
			}
			q, r := new(big.Int).QuoRem(x, y, new(big.Int))
			if got, ok := bits.Div(a, b); got != modulo(q) || !ok {
				t.Errorf("Div(%d, %d): %d, %t, want %d", a, b, got, ok, modulo(q))
			}
			if got, ok := bits.Mod(a, b); got != r.Int64() || !ok {
				t.Errorf("Mod(%d, %d): %d, %t, want %d", a, b, got, ok, r)
			}
		}
	}
}

// P1.1: what is 0 only when it is wrapped divides nothing either.
func TestDivModByZero(t *testing.T) {
	for _, b := range []int64{0, math.MinInt64} {
		for _, a := range edges() {
			if got, ok := bits.Div(a, b); got != 0 || ok {
				t.Errorf("Div(%d, %d): %d, %t", a, b, got, ok)
			}
			if got, ok := bits.Mod(a, b); got != 0 || ok {
				t.Errorf("Mod(%d, %d): %d, %t", a, b, got, ok)
			}
		}
	}
}

// P1.1
func TestShifts(t *testing.T) {
	for _, c := range []struct{ a, n, up, down int64 }{
		{-8, 1, -16, -4}, {-7, 1, -14, -4}, {7, 1, 14, 3}, {-1, 5, -32, -1},
		{5, 0, 5, 5}, {1, 61, 1 << 61, 0}, {1, 62, least, 0}, {2, 62, 0, 0},
		{3, 62, least, 0}, {-1, 62, least, -1}, {greatest, 62, least, 0},
		{greatest, 61, 1<<61 + least, 1}, {least, 62, 0, -1}, {least, 61, 0, -2},
		{least, 1, 0, -1 << 61}, {greatest, 1, -2, 1<<61 - 1},
		// a is wrapped ahead of it.
		{1 << 62, 0, least, least}, {1 << 62, 61, 0, -2},
		{math.MaxInt64, 3, -8, -1}, {math.MinInt64, 1, 0, 0},
	} {
		if got := bits.Shl(c.a, c.n); got != c.up {
			t.Errorf("Shl(%d, %d): %d, want %d", c.a, c.n, got, c.up)
		}
		if got := bits.Shr(c.a, c.n); got != c.down {
			t.Errorf("Shr(%d, %d): %d, want %d", c.a, c.n, got, c.down)
		}
	}
	for _, a := range edges() {
		for n := range int64(63) {
			power := new(big.Int).Exp(big.NewInt(2), big.NewInt(n), nil)
			if got, want := bits.Shl(a, n), modulo(new(big.Int).Mul(wide(a), power)); got != want {
				t.Errorf("Shl(%d, %d): %d, want %d", a, n, got, want)
			}
			// Euclid's quotient by what is above 0 is the one that goes down.
			if got, want := bits.Shr(a, n), new(big.Int).Div(wide(a), power).Int64(); got != want {
				t.Errorf("Shr(%d, %d): %d, want %d", a, n, got, want)
			}
		}
	}
}

// P1.1: shifts below 0 and above 62.
func TestShiftsOutside(t *testing.T) {
	for _, n := range []int64{-1, -2, -62, -63, -64, math.MinInt64, 63, 64, 65, 127, 128, 1 << 32, math.MaxInt64} {
		for _, a := range edges() {
			down := int64(0)
			if wide(a).Sign() < 0 {
				down = -1
			}
			if got := bits.Shl(a, n); got != 0 {
				t.Errorf("Shl(%d, %d): %d", a, n, got)
			}
			if got := bits.Shr(a, n); got != down {
				t.Errorf("Shr(%d, %d): %d, want %d", a, n, got, down)
			}
		}
	}
}
