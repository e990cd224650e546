package arena_test

import (
	"fmt"
	"math"
	"testing"

	"gantline/api"
	"gantline/arena"
	"gantline/geom"
)

// P4.3: each word keeps what was written last; the others stay.
func TestReadWrite(t *testing.T) {
	a := filled(t)
	want := map[[2]int64]int64{}
	for class := range 6 {
		for k := range geom.Places(class) {
			addr := geom.Addr(class+1, k, class)
			for at := range geom.Words(class) {
				want[[2]int64{addr, int64(at)}] = addr*100 + int64(at)
			}
		}
	}
	values := []int64{0, 1, -1, math.MaxInt64, math.MinInt64, 1 << 62, -1 << 62, 77}
	for class := range 6 {
		last := geom.Places(class) - 1
		for i, c := range [][2]int{{0, 0}, {0, geom.Words(class) - 1}, {last, 0}, {last, geom.Words(class) - 1}, {last / 2, 1}} {
			addr, at, v := geom.Addr(class+1, c[0], class), c[1], values[(class+i)%len(values)]
			if e := a.Write(addr, at, v); e != api.OK {
				t.Errorf("Write(%d, %d): %d", addr, at, e)
			}
			want[[2]int64{addr, int64(at)}] = v
			for w, v := range want {
				if got, e := a.Read(w[0], int(w[1])); got != v || e != api.OK {
					t.Fatalf("Read(%d, %d) behind Write(%d, %d): %d, %d, want %d", w[0], w[1], addr, at, got, e, v)
				}
			}
		}
	}
}

// P4.3: a write changes neither classes nor maps.
func TestWriteAlone(t *testing.T) {
	a := filled(t)
	a.Write(64, 0, -1)
	a.Write(64, 1, -1)
	for class := range 6 {
		full := geom.Full(class)
		wantSpan(t, a, class+1, class, full, full&0xaaaaaaaaaaaaaaaa)
	}
}

// wantNoWord wants a word to be neither read nor written.
func wantNoWord(t *testing.T, a *arena.Arena, before string, addr int64, at int) {
	t.Helper()
	if v, e := a.Read(addr, at); v != 0 || e != api.EARG {
		t.Errorf("Read(%d, %d): %d, %d", addr, at, v, e)
	}
	if e := a.Write(addr, at, 12345); e != api.EARG {
		t.Errorf("Write(%d, %d): %d", addr, at, e)
	}
	wantSame(t, a, before, fmt.Sprint("Write ", addr, " ", at))
}

// P4.3: which word, at each class' edges.
func TestNoSuchWord(t *testing.T) {
	a := filled(t)
	before := picture(a)
	for class := range 6 {
		words := geom.Words(class)
		for _, k := range []int{0, geom.Places(class) - 1} {
			addr := geom.Addr(class+1, k, class)
			for _, at := range []int{-1, words, words + 1, -words, 64, 1 << 32, math.MaxInt, math.MinInt} {
				wantNoWord(t, a, before, addr, at)
			}
			for _, at := range []int{0, words - 1} {
				if v, e := a.Read(addr, at); v != addr*100+int64(at) || e != api.OK {
					t.Errorf("Read(%d, %d): %d, %d", addr, at, v, e)
				}
			}
		}
	}
}

// P4.3: addresses where Is says no.
func TestNoSuchPlace(t *testing.T) {
	a := made(t, 8)
	set(t, a, 1, 1)
	l := take(t, a, 1, 3)
	set(t, a, 2, 0)
	set(t, a, 4, 5)
	gone := take(t, a, 4, 1)[0]
	a.Sweep(4)
	before := picture(a)
	for _, addr := range append(nowhere(), l[0]+1, l[0]+2, l[2]+3, l[2]+4, 124, 128, 192, gone, 448) {
		for _, at := range []int{-1, 0, 1, 64, math.MaxInt, math.MinInt} {
			wantNoWord(t, a, before, addr, at)
		}
	}
}

// P4.3
func TestCopy(t *testing.T) {
	for _, spans := range []int{8, 9, 512} {
		a := made(t, spans)
		if b := a.Copy(); b == a || picture(b) != picture(a) {
			t.Errorf("the copy of a new one of %d spans is another", spans)
		}
	}
	a := filled(t)
	a.Sweep(2)
	before := picture(a)
	b := a.Copy()
	if picture(b) != before {
		t.Errorf("the copy is not the same")
	}
	wantSame(t, a, before, "Copy")
	if x, _ := b.Take(2); x != 128 {
		t.Errorf("Take(2) of the copy: %d", x)
	}
	wantSame(t, a, before, "Take of the copy")
}

// P4.3: whichever of the two is changed, and however, the other stays.
func TestCopyApart(t *testing.T) {
	for what, change := range map[string]func(a *arena.Arena){
		"Write": func(a *arena.Arena) { a.Write(130, 1, 5) },
		"Mark":  func(a *arena.Arena) { a.Mark(64) },
		"Clear": func(a *arena.Arena) { a.Clear() },
		"Sweep": func(a *arena.Arena) { a.Sweep(1) },
		"Set":   func(a *arena.Arena) { a.Set(3, 3) },
		"Take":  func(a *arena.Arena) { a.Take(2) },
		"all":   func(a *arena.Arena) { a.Clear(); a.Sweep(1); a.Set(1, 5); a.Take(1); a.Write(64, 9, 9) },
	} {
		a := made(t, 8)
		set(t, a, 1, 0)
		a.Mark(take(t, a, 1, 2)[1])
		set(t, a, 2, 0)
		a.Write(take(t, a, 2, 2)[1], 1, 4)
		b := a.Copy()
		c := b.Copy()
		before := picture(a)
		change(b)
		if picture(b) == before {
			t.Errorf("%s of the copy has changed nothing", what)
		}
		wantSame(t, a, before, what+" of the copy")
		wantSame(t, c, before, what+" of the one that was copied")
		change(c)
		if picture(b) != picture(c) {
			t.Errorf("%s: the two that had it are not the same", what)
		}
	}
}

// P4.3: a copy's words are its own, also where a place is taken anew.
func TestCopyTakeAnew(t *testing.T) {
	a := made(t, 8)
	set(t, a, 1, 0)
	l := take(t, a, 1, 2)
	a.Write(l[0], 0, 8)
	a.Mark(l[1])
	b := a.Copy()
	b.Sweep(1)
	take(t, b, 1, 1)
	if v, _ := b.Read(l[0], 0); v != 0 {
		t.Errorf("Read of the copy: %d", v)
	}
	if v, _ := a.Read(l[0], 0); v != 8 {
		t.Errorf("Read of the one that was copied: %d", v)
	}
}
