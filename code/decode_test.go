package code_test

import (
	"bytes"
	"math"
	"reflect"
	"strconv"
	"testing"

	"gantline/api"
	"gantline/code"
)

// wantFitting wants Decode to take just what is some module's.
func wantFitting(t *testing.T, where string, b []byte) {
	t.Helper()
	if !readable(b) {
		wantRefused(t, where, b)
		return
	}
	m, e := code.Decode(b)
	if e != api.OK {
		t.Fatalf("%s: Decode(%v): %d", where, b, e)
	}
	if !bytes.Equal(code.Encode(m), b) || plain(m) != string(b) {
		t.Fatalf("%s: Decode(%v): %v, which Encode makes %v", where, b, m, code.Encode(m))
	}
}

// P9.2: nothing, and less than the first bytes.
func TestDecodeShort(t *testing.T) {
	for _, b := range [][]byte{nil, {}, {71}, {71, 79}, {71, 79, 76}, {71, 79, 76, 49}, {0}, {0, 0, 0, 0, 0, 0}} {
		wantRefused(t, "short", b)
	}
}

// P9.2: each of the first four, each wrong.
func TestDecodeFirst(t *testing.T) {
	for _, m := range modules() {
		for k := range 4 {
			for c := range 256 {
				b := []byte(plain(m))
				if int(b[k]) == c {
					continue
				}
				b[k] = byte(c)
				wantRefused(t, "byte "+strconv.Itoa(k), b)
			}
		}
	}
	for _, text := range []string{"gol1\x00\x00\x00\x00\x00\x00", "1LOG\x00\x00\x00\x00\x00\x00", "OL1\x00\x00\x00\x00\x00\x00", "\x00GOL1\x00\x00\x00\x00\x00\x00"} {
		wantRefused(t, "moved", []byte(text))
	}
}

// P9.2
func TestDecodeCut(t *testing.T) {
	for _, m := range modules() {
		b := []byte(plain(m))
		for n := range b {
			wantRefused(t, "cut", b[:n:n])
			// What lies behind the list in its spare room is none of it.
			wantRefused(t, "cut, with the rest behind", b[:n])
		}
	}
}

// P9.2
func TestDecodeBehind(t *testing.T) {
	for _, m := range modules() {
		b := []byte(plain(m))
		for c := range 256 {
			wantRefused(t, "a byte behind", append(bytes.Clone(b), byte(c)))
		}
		wantRefused(t, "twice", append(bytes.Clone(b), b...))
	}
}

// with is the bytes of pieces, where piece n is written as told.
func with(p pieces, n int, as []byte) []byte {
	b := p[:n].join()
	b = append(b, as...)
	return append(b, p[n+1:].join()[4:]...)
}

// P9.2: each number, by one byte more up to eleven in all.
func TestDecodeLonger(t *testing.T) {
	for _, m := range modules() {
		p := piecesOf(m)
		for n, x := range p {
			as := seven(x.u)
			for len(as) < 11 {
				as[len(as)-1] |= 128
				as = append(as, 0)
				wantRefused(t, "piece "+strconv.Itoa(n), with(p, n, as))
			}
			as[len(as)-1] = 1
			wantRefused(t, "piece "+strconv.Itoa(n)+", past 64 bits", with(p, n, as))
		}
	}
}

// P9.2: what 64 bits do not hold is no number.
func TestDecodeGreater(t *testing.T) {
	p := piecesOf(full())
	for n := range p {
		for _, last := range []byte{2, 3, 127, 128, 129, 255} {
			wantRefused(t, "piece "+strconv.Itoa(n), with(p, n, fill(9, 128, last)))
			wantRefused(t, "piece "+strconv.Itoa(n), with(p, n, fill(9, 255, last)))
		}
	}
}

// P9.2: a bool is 0 or 1.
func TestDecodeBool(t *testing.T) {
	p := piecesOf(full())
	bools := 0
	for n, x := range p {
		if x.sort != truth {
			continue
		}
		bools++
		for _, u := range []uint64{2, 3, 127, 128, 129, 256, 257, 1 << 32, 1<<32 + 1, 1 << 63, math.MaxUint64} {
			wantRefused(t, "bool "+strconv.Itoa(n), with(p, n, seven(u)))
		}
	}
	if bools != 9 {
		t.Errorf("%d bools were tried", bools)
	}
}

// P9.2: each count, too great; no memory is taken for what cannot be there.
func TestDecodeCount(t *testing.T) {
	for _, m := range modules() {
		p := piecesOf(m)
		for n, x := range p {
			if x.sort != count {
				continue
			}
			left := uint64(len(p[n+1:].join()) - 4)
			for _, u := range []uint64{left + 1, left + 2, 1000, 1 << 20, 1<<31 - 1, 1 << 31, 1 << 32, 1<<32 + x.u, 1 << 40, 1 << 60, 1<<61 + x.u, 1 << 62, 1<<63 - 1, 1 << 63, 1<<63 + x.u, math.MaxUint64 - 1, math.MaxUint64} {
				b := with(p, n, seven(u))
				wantRefused(t, "count "+strconv.Itoa(n), b)
				if got := taken(func() { code.Decode(b) }); got > 1<<16 {
					t.Fatalf("count %d of %d: Decode took %d bytes", n, u, got)
				}
			}
		}
	}
}

// P9.2: each count, other than it is, where as many bytes may be there.
func TestDecodeCountFits(t *testing.T) {
	for _, m := range modules() {
		p := piecesOf(m)
		for n, x := range p {
			if x.sort != count {
				continue
			}
			for u := range uint64(len(p)) + 10 {
				wantFitting(t, "count "+strconv.Itoa(n), with(p, n, seven(u)))
			}
		}
	}
}

// A count that as many bytes follow, but too few for as many items, takes no more memory than the bytes are worth.
func TestDecodeGreatCount(t *testing.T) {
	const size = 1 << 16
	for _, ahead := range [][]byte{{}, {0}, {0, 0}, {0, 0, 0}, {0, 0, 0, 0}, {0, 0, 0, 0, 1, 0, 0, 0, 0}, {0, 0, 0, 0, 1, 0, 0, 0, 0, 0}, {0, 0, 0, 0, 1, 0, 0, 0, 0, 0, 0}} {
		for _, rest := range [][]byte{fill(size, 255), fill(size, 2), fill(size, 0)} {
			b := append([]byte("GOL1"), ahead...)
			b = append(b, seven(size)...)
			b = append(b, rest...)
			if got := taken(func() { wantRefused(t, "great", b) }); got > 40*size {
				t.Errorf("Decode of %d bytes took %d", len(b), got)
			}
		}
	}
}

// P9.2: EFORM, or a module whose Encode is just those bytes.
func TestDecodeChanged(t *testing.T) {
	good := 0
	for _, m := range modules() {
		text := []byte(plain(m))
		for k := range text {
			for c := range 256 {
				b := bytes.Clone(text)
				b[k] = byte(c)
				wantFitting(t, "byte "+strconv.Itoa(k)+" changed", b)
				if readable(b) {
					good++
				}
			}
		}
	}
	if good < 1000 {
		t.Errorf("only %d changed texts were some module's", good)
	}
}

// P9.2: a byte taken away, or laid between.
func TestDecodeMoved(t *testing.T) {
	for _, m := range modules() {
		text := []byte(plain(m))
		for k := range text {
			fewer := append(bytes.Clone(text[:k]), text[k+1:]...)
			wantFitting(t, "byte "+strconv.Itoa(k)+" taken away", fewer)
			for _, c := range []byte{0, 1, 2, 127, 128, 129, 255} {
				more := append(bytes.Clone(text[:k]), c)
				wantFitting(t, "a byte ahead of byte "+strconv.Itoa(k), append(more, text[k:]...))
			}
		}
	}
}

// P9.2: every text of up to ten bytes from a few.
func TestDecodeAll(t *testing.T) {
	var grow func(b []byte, left int, from []byte)
	grow = func(b []byte, left int, from []byte) {
		wantFitting(t, "all", b)
		if left == 0 {
			return
		}
		for _, c := range from {
			grow(append(b[:len(b):len(b)], c), left-1, from)
		}
	}
	grow([]byte("GOL1"), 10, []byte{0, 1})
	grow([]byte("GOL1"), 7, []byte{0, 1, 2, 128})
	grow([]byte("GOL1\x00\x00\x00\x00\x01\x00\x00\x00\x00"), 7, []byte{0, 1, 2, 129})
}

// P9.2: every module is read, whatever its numbers: what may be run is another chapter's.
func TestDecodeVaried(t *testing.T) {
	varied(func(where string, m code.Module) {
		wantFitting(t, where, []byte(plain(m)))
	})
}

// R4: what is handed in stays as it is, spare room too, and is not kept.
func TestDecodeLeavesItsBytes(t *testing.T) {
	text := plain(full())
	for _, cutAt := range []int{len(text), len(text) - 1, 5, 0} {
		whole := append([]byte(text), fill(30, 77)...)
		was := bytes.Clone(whole)
		m, e := code.Decode(whole[:cutAt])
		if !bytes.Equal(whole, was) {
			t.Fatalf("Decode changed its bytes")
		}
		for k := range whole {
			whole[k] ^= 255
		}
		if e == api.OK && plain(m) != text {
			t.Fatalf("Decode's answer changed with the bytes")
		}
	}
}

// R4: no list of an answer shares memory with another, of this answer or of another, or with the bytes.
func TestDecodeApart(t *testing.T) {
	b := []byte(plain(full()))
	second, _ := code.Decode(b)
	for n := range places() {
		m, e := code.Decode(b)
		if e != api.OK {
			t.Fatalf("Decode: %d", e)
		}
		k := 0
		visit(&m, func(path string, v reflect.Value) {
			k++
			if k-1 != n || v.Kind() != reflect.Slice {
				return
			}
			overwrite(v)
			if plain(m) != string(b) {
				t.Errorf("%s shares memory with another list", path)
			}
		})
	}
	if plain(second) != string(b) || string(b) != plain(full()) {
		t.Errorf("Decode's answers share memory")
	}
}

// overwrite writes over a list and its spare room, and puts a copy of what was there in its place.
func overwrite(v reflect.Value) {
	kept := reflect.MakeSlice(v.Type(), v.Len(), v.Len())
	reflect.Copy(kept, v)
	room := v.Slice(0, v.Cap())
	for k := range room.Len() {
		room.Index(k).Set(other(v.Type().Elem()))
	}
	v.Set(kept)
}
