package heap_test

import (
	"math"
	"testing"

	"gantline/api"
	"gantline/head"
)

// someWords are words that a field may be set to: any number.
func someWords() []int64 {
	return []int64{7, -7, 0, 64, 1 << 32, 1 << 61, 1 << 62, -1 << 62, math.MaxInt64, math.MinInt64, -1}
}

// wantGet wants a field to be that, read so, and not to be read the other way.
func (w *world) wantGet(addr int64, field int, address bool, want int64) {
	w.t.Helper()
	if v, trap := w.h.Get(addr, field, address); v != want || trap != api.TrapNone {
		w.t.Errorf("Get(%d, %d, %v): %d, %d, want %d", addr, field, address, v, trap, want)
	}
	w.wantTraps("the other way", addr, field, !address, api.TrapNil, api.TrapNil)
}

func (w *world) wantSet(addr int64, field int, v int64, address, barrier bool, id int) {
	w.t.Helper()
	if trap := w.h.Set(addr, field, v, address, barrier, id); trap != api.TrapNone {
		w.t.Errorf("Set(%d, %d, %d, %v, %v, %d): %d", addr, field, v, address, barrier, id, trap)
	}
}

// P14.2: the chapter's example, and what it leaves out.
func TestGetExample(t *testing.T) {
	w := begun(t, 8)
	addr := w.make(pair, 3)
	w.wantGet(addr, 1, true, 0)
	w.wantGet(addr, 0, false, 0)
	w.wantTraps("nothing", 0, 0, false, api.TrapNil, api.TrapNil)
	w.wantTraps("nothing", 0, 0, true, api.TrapNil, api.TrapNil)
}

// P14.2: each field of a plain object, from -1 to Fields, with each word: it is there, and the others stay.
func TestGetSet(t *testing.T) {
	for _, shape := range []int{pair, twin, bare, wide} {
		w, s := begun(t, 8), yard()[shape]
		before, addr, behind := w.make(wide, 64), w.make(shape, s.Fields+1), w.make(wide, 64)
		now := make([]int64, s.Fields)
		for _, v := range someWords() {
			for field := range s.Fields {
				w.wantSet(addr, field, v+int64(field), s.Map>>field&1 == 1, field%3 == 0, field)
				now[field] = v + int64(field)
				for other, want := range now {
					if got := w.word(addr, other+1); got != want {
						t.Fatalf("shape %d: the field %d is %d, want %d", shape, other, got, want)
					}
				}
				w.wantGet(addr, field, s.Map>>field&1 == 1, now[field])
			}
		}
		w.wantPlainHead(addr, shape, s.Fields+1)
		w.wantObject(before, wide, 64)
		w.wantObject(behind, wide, 64)
		for _, field := range wrongInts(s.Fields) {
			w.wantTraps("no such field", addr, field, false, api.TrapNil, api.TrapNil)
			w.wantTraps("no such field", addr, field, true, api.TrapNil, api.TrapNil)
		}
	}
}

// wantPlainHead wants the head to be as it was made.
func (w *world) wantPlainHead(addr int64, shape, words int) {
	w.t.Helper()
	if got, want := w.word(addr, 0), packed(w.t, words, plain, numberOf(shape)); got != want {
		w.t.Errorf("the head is %d, want %d", got, want)
	}
}

// P14.2: an object with fewer words than its shape has fields: those that it has are read and written, though its place has more words.
func TestShortObjects(t *testing.T) {
	s := yard()[wide]
	for words := 1; words <= api.MaxWords; words++ {
		w := begun(t, 8)
		addr := w.make(wide, words)
		for field := range s.Fields {
			address := s.Map>>field&1 == 1
			if field < words-1 {
				w.wantSet(addr, field, 9, address, false, 1)
				w.wantGet(addr, field, address, 9)
				continue
			}
			w.wantTraps("beyond its words", addr, field, address, api.TrapNil, api.TrapNil)
			w.wantTraps("beyond its words", addr, field, !address, api.TrapNil, api.TrapNil)
		}
	}
}

// P14.2: an object with more words than its shape has fields: those beyond the shape's are no fields.
func TestLongObjects(t *testing.T) {
	w := begun(t, 16)
	for _, shape := range []int{bare, pair} {
		for _, words := range []int{4, 5, 16, 64} {
			addr, fields := w.make(shape, words), yard()[shape].Fields
			for field := fields; field < words+1; field++ {
				w.wantTraps("beyond its shape", addr, field, false, api.TrapNil, api.TrapNil)
				w.wantTraps("beyond its shape", addr, field, true, api.TrapNil, api.TrapNil)
			}
			if fields == 2 {
				w.wantSet(addr, 1, 64, true, true, 1)
				w.wantGet(addr, 1, true, 64)
			}
		}
	}
}

// P14.2: what is not plain has no fields to be read: arrays, closures, channels, of any words.
func TestGetOfOtherKinds(t *testing.T) {
	w := begun(t, 40)
	for _, shape := range []int{caught, pipe, pipes} {
		for _, words := range []int{1, 2, 3, 5, 9, 64} {
			addr := w.make(shape, words)
			for _, at := range append(wrongInts(words-1), 0, 1, 2, 4, 5, 62) {
				w.wantTraps("another kind", addr, at, false, api.TrapNil, api.TrapNil)
				w.wantTraps("another kind", addr, at, true, api.TrapNil, api.TrapNil)
			}
		}
	}
	for _, shape := range []int{numbers, addresses} {
		addr := w.make(shape, 9)
		w.wantSame("Get, Set of an array", func() {
			for _, at := range append(wrongInts(8), 0, 1, 7) {
				for _, address := range []bool{false, true} {
					if v, trap := w.h.Get(addr, at, address); v != 0 || trap != api.TrapNil {
						t.Errorf("Get(%d, %v): %d, %d", at, address, v, trap)
					}
					if trap := w.h.Set(addr, at, 5, address, true, 1); trap != api.TrapNil {
						t.Errorf("Set(%d, %v): %d", at, address, trap)
					}
				}
			}
		})
	}
}

// P14.2: the Kind is the one that the head tells.
func TestKindOfHead(t *testing.T) {
	w := begun(t, 8)
	addr := w.make(pair, 3)
	for _, kind := range []int{closure, channel} {
		w.lay(addr, 0, packed(t, 3, kind, 0))
		w.wantTraps("a head of another kind", addr, 0, false, api.TrapNil, api.TrapNil)
		w.wantTraps("a head of another kind", addr, 1, true, api.TrapNil, api.TrapNil)
		w.wantLen("a head of another kind", addr, 0, api.TrapNil)
	}
	w.lay(addr, 0, packed(t, 3, array, 0))
	if v, trap := w.h.Get(addr, 0, false); v != 0 || trap != api.TrapNil {
		t.Errorf("Get: %d, %d", v, trap)
	}
	w.wantLen("a head of an array", addr, 2, api.TrapNone)
	for _, kind := range []int{plain, closure, channel} {
		for shape, address := range arrays() {
			w.lay(addr, 0, packed(t, 3, kind, numberOf(shape)))
			w.wantTraps("an array's shape", addr, 0, address, api.TrapNil, api.TrapNil)
			w.wantLen("an array's shape", addr, 0, api.TrapNil)
		}
	}
}

// P14.2: a head that tells more words than its place has: what is not there is no field, and no element.
func TestHeadBeyondPlace(t *testing.T) {
	w := begun(t, 8)
	addr := w.make(wide, 3)
	next := w.make(wide, 3)
	w.lay(addr, 0, packed(t, 64, plain, numberOf(wide)))
	w.wantSet(addr, 2, 5, false, true, 1)
	w.wantGet(addr, 2, false, 5)
	for field := 3; field < 63; field++ {
		w.wantTraps("beyond its place", addr, field, field%2 == 1, api.TrapNil, api.TrapNil)
	}
	for shape, address := range map[int]bool{numbers: false, addresses: true} {
		w.lay(addr, 0, packed(t, 64, array, numberOf(shape)))
		w.wantPut(addr, 2, 6, address, true, 1)
		w.wantAt(addr, 2, address, 6)
		for i := 3; i < 63; i++ {
			w.wantTraps("beyond its place", addr, i, address, api.TrapNil, api.TrapIndex)
		}
	}
	w.wantObject(next, wide, 3)
}

// P14.2: a field that holds no address may hold the number of one: nothing is looked at there.
func TestNumbersAreNoAddresses(t *testing.T) {
	w := begun(t, 8)
	addr, other := w.keep(pair, 3), w.make(pair, 3)
	w.wantSet(addr, 0, other, false, true, 1)
	w.wantGet(addr, 0, false, other)
	w.h.Cycle().Whole(w.r)
	w.wantTaken("a number keeps nothing", addr)
	w.wantGet(addr, 0, false, other)
}

// P14.2: a field that holds addresses may be set to any word, one that is none too.
func TestAddressesMayBeAny(t *testing.T) {
	for phase := range phases {
		w := begun(t, 16)
		addr := w.keep(pair, 3)
		w.to(phase)
		for _, v := range append(nowhere(), addr+1, addr+2) {
			w.wantSet(addr, 1, v, true, true, 2)
			w.wantGet(addr, 1, true, v)
		}
		w.to(off)
		w.wantTaken("kept", addr)
	}
}

// P14.2: a shape's last field, of the greatest object that there may be.
func TestGreatest(t *testing.T) {
	h := created(t, 8, []head.Shape{{Fields: 63, Map: 1 << 62}, {Kind: array, Map: 1}})
	w := &world{t, h, &holder{}}
	addr := w.make(0, 64)
	for field := range 62 {
		w.wantGet(addr, field, false, 0)
	}
	w.wantSet(addr, 62, -3, true, true, 0)
	w.wantGet(addr, 62, true, -3)
	list := w.make(1, 64)
	w.wantPut(list, 62, -4, true, true, 0)
	w.wantAt(list, 62, true, -4)
	w.wantGet(addr, 62, true, -3)
}
