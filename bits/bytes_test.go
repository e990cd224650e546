package bits_test

import (
	"bytes"
	"math"
	"math/big"
	"testing"

	"gantline/bits"
)

// P1.3: all of int64, not the machine's numbers alone.
func TestZigZag(t *testing.T) {
	for _, c := range []struct {
		v int64
		u uint64
	}{
		{0, 0}, {-1, 1}, {1, 2}, {-2, 3}, {2, 4}, {-64, 127}, {64, 128},
		{greatest, 1<<63 - 2}, {least, 1<<63 - 1}, {greatest + 1, 1 << 63}, {least - 1, 1<<63 + 1},
		{math.MaxInt64, math.MaxUint64 - 1}, {math.MinInt64, math.MaxUint64},
	} {
		if got := bits.Zig(c.v); got != c.u {
			t.Errorf("Zig(%d): %d, want %d", c.v, got, c.u)
		}
		if got := bits.Zag(c.u); got != c.v {
			t.Errorf("Zag(%d): %d, want %d", c.u, got, c.v)
		}
	}
	for _, v := range edges() {
		want := new(big.Int).Mul(big.NewInt(2), big.NewInt(v))
		if v < 0 {
			want.Neg(want).Sub(want, big.NewInt(1))
		}
		u := bits.Zig(v)
		if u != want.Uint64() || bits.Zag(u) != v {
			t.Errorf("Zig(%d): %d, want %d; back: %d", v, u, want, bits.Zag(u))
		}
	}
	for _, u := range words() {
		if got := bits.Zig(bits.Zag(u)); got != u {
			t.Errorf("Zig(Zag(%d)): %d", u, got)
		}
	}
}

// fill is n times the byte c, and then rest.
func fill(n int, c byte, rest ...byte) []byte {
	return append(bytes.Repeat([]byte{c}, n), rest...)
}

type written struct {
	u uint64
	b []byte
}

// forms are numbers and their bytes; at each number of bytes the least and the greatest.
func forms() []written {
	list := []written{
		{0, []byte{0}}, {1, []byte{1}}, {127, []byte{127}},
		{300, []byte{172, 2}}, {16256, []byte{128, 127}},
		{1 << 63, fill(9, 128, 1)}, {math.MaxUint64, fill(9, 255, 1)},
	}
	for k := 1; k <= 8; k++ {
		list = append(list, written{1 << (7 * k), fill(k, 128, 1)}, written{1<<(7*k+7) - 1, fill(k, 255, 127)})
	}
	return list
}

// P1.3
func TestPutTake(t *testing.T) {
	for _, f := range forms() {
		if got := bits.Put(nil, f.u); !bytes.Equal(got, f.b) {
			t.Errorf("Put(nothing, %d): %v, want %v", f.u, got, f.b)
		}
		if got := bits.Put([]byte{}, f.u); !bytes.Equal(got, f.b) {
			t.Errorf("Put(an empty list, %d): %v, want %v", f.u, got, f.b)
		}
		ahead := []byte{9, 128, 0}
		if got := bits.Put(ahead, f.u); !bytes.Equal(got, append(bytes.Clone(ahead), f.b...)) {
			t.Errorf("Put(%v, %d): %v", ahead, f.u, got)
		}
		if u, n := bits.Take(f.b); u != f.u || n != len(f.b) {
			t.Errorf("Take(%v): %d, %d, want %d", f.b, u, n, f.u)
		}
		for _, behind := range []byte{0, 1, 128, 255} {
			if u, n := bits.Take(append(bytes.Clone(f.b), behind)); u != f.u || n != len(f.b) {
				t.Errorf("Take(%v and %d): %d, %d, want %d", f.b, behind, u, n, f.u)
			}
		}
	}
	for _, u := range words() {
		b := bits.Put(nil, u)
		if got, n := bits.Take(b); got != u || n != len(b) {
			t.Errorf("Put(nothing, %d): %v; back: %d, %d", u, b, got, n)
		}
	}
}

// P1.3: too short.
func TestTakeShort(t *testing.T) {
	for _, f := range forms() {
		for n := range len(f.b) {
			if u, k := bits.Take(f.b[:n]); u != 0 || k != 0 {
				t.Errorf("Take(%v): %d, %d", f.b[:n], u, k)
			}
		}
	}
	if u, k := bits.Take([]byte{}); u != 0 || k != 0 {
		t.Errorf("Take(an empty list): %d, %d", u, k)
	}
}

// P1.3: more than ten bytes, a tenth above 1, a last of several that is 0.
func TestTakeWrong(t *testing.T) {
	wrong := [][]byte{
		fill(10, 128, 1), fill(10, 128, 0), fill(10, 255, 1), fill(9, 128, 129, 1), fill(11, 128, 1), fill(200, 128, 1), fill(200, 255),
	}
	for c := 2; c <= 255; c++ {
		wrong = append(wrong, fill(9, 128, byte(c)), fill(9, 255, byte(c), 1))
	}
	for n := 1; n <= 9; n++ {
		wrong = append(wrong, fill(n, 128, 0), fill(n, 255, 0), fill(n, 129, 0, 1))
	}
	for _, b := range wrong {
		if u, n := bits.Take(b); u != 0 || n != 0 {
			t.Errorf("Take(%v): %d, %d", b, u, n)
		}
	}
}

// P1.3: of bytes of each form, Take reads exactly those that Put writes.
func TestTakeReadsWhatPutWrites(t *testing.T) {
	for first := range 256 {
		for second := range 256 {
			b := []byte{byte(first), byte(second)}
			u, n := bits.Take(b)
			switch {
			case n == 0 && u != 0:
				t.Errorf("Take(%v): %d, 0", b, u)
			case n == 0 && (first < 128 || second > 0 && second < 128):
				t.Errorf("Take(%v): nothing", b)
			case n > 0 && !bytes.Equal(bits.Put(nil, u), b[:n]):
				t.Errorf("Take(%v): %d, %d", b, u, n)
			}
		}
	}
}

// R4: the list that is handed in stays as it is, with its spare room, and the answer is other memory.
func TestPutLeavesItsList(t *testing.T) {
	for _, room := range []int{0, 1, 2, 9, 10, 11, 64} {
		for _, u := range []uint64{0, 5, 300, math.MaxUint64} {
			whole := fill(3+room, 77)
			got := bits.Put(whole[:3], u)
			if !bytes.Equal(whole, fill(3+room, 77)) {
				t.Errorf("Put(a list with room for %d, %d): it is now %v", room, u, whole)
			}
			clear(got[:cap(got)])
			if !bytes.Equal(whole, fill(3+room, 77)) {
				t.Errorf("Put(a list with room for %d, %d): shared with the answer", room, u)
			}
			got = bits.Put(whole[:0], u)
			clear(got[:cap(got)])
			if !bytes.Equal(whole, fill(3+room, 77)) {
				t.Errorf("Put(an empty list with room, %d): shared with the answer", u)
			}
		}
	}
}

// R4
func TestTakeLeavesItsList(t *testing.T) {
	for _, b := range [][]byte{{172, 2, 9}, fill(9, 255, 1), fill(9, 255, 2), {128, 0}, {128}} {
		was := bytes.Clone(b)
		bits.Take(b)
		if !bytes.Equal(b, was) {
			t.Errorf("Take(%v): it is now %v", was, b)
		}
	}
}
