package heap_test

import (
	"math"
	"testing"

	"gantline/api"
)

func (w *world) wantAt(addr, i int64, address bool, want int64) {
	w.t.Helper()
	if v, trap := w.h.At(addr, i, address); v != want || trap != api.TrapNone {
		w.t.Errorf("At(%d, %d, %v): %d, %d, want %d", addr, i, address, v, trap, want)
	}
}

func (w *world) wantPut(addr, i, v int64, address, barrier bool, id int) {
	w.t.Helper()
	if trap := w.h.Put(addr, i, v, address, barrier, id); trap != api.TrapNone {
		w.t.Errorf("Put(%d, %d, %d, %v, %v, %d): %d", addr, i, v, address, barrier, id, trap)
	}
}

// wantElementTrap wants At and Put to say that, and to change nothing.
func (w *world) wantElementTrap(addr, i int64, address bool, want api.Trap) {
	w.t.Helper()
	w.wantSame("a trap", func() {
		if v, trap := w.h.At(addr, i, address); v != 0 || trap != want {
			w.t.Errorf("At(%d, %d, %v): %d, %d, want %d", addr, i, address, v, trap, want)
		}
		for _, barrier := range []bool{false, true} {
			if trap := w.h.Put(addr, i, 64, address, barrier, 1); trap != want {
				w.t.Errorf("Put(%d, %d, %v): %d, want %d", addr, i, address, trap, want)
			}
		}
	})
}

// arrays are the shapes of arrays, and whether they hold addresses.
func arrays() map[int]bool { return map[int]bool{numbers: false, addresses: true} }

// wrongIndexes are such at which an array of that length has nothing.
func wrongIndexes(length int64) []int64 {
	return []int64{
		-1, -2, -64, math.MinInt64, math.MinInt64 + 1, -1 << 32, length, length + 1, length + 2, length + 64,
		1 << 31, 1 << 32, 1<<32 - 1, 1<<32 + 1, 1 << 40, 1 << 62, math.MaxInt64 - 1, math.MaxInt64,
	}
}

// P14.2: each element of arrays of each length, of both kinds of words, is read and written, and the others stay.
func TestAtPut(t *testing.T) {
	for shape, address := range arrays() {
		for length := range int64(api.MaxWords) {
			w := begun(t, 8)
			before, addr, behind := w.make(wide, 64), w.make(shape, int(length)+1), w.make(wide, 64)
			for i := range length {
				w.wantAt(addr, i, address, 0)
			}
			for round, v := range someWords() {
				for i := range length {
					w.wantPut(addr, i, v-i, address, round%2 == 0, int(i))
				}
				for i := range length {
					w.wantAt(addr, i, address, v-i)
				}
			}
			if got, want := w.word(addr, 0), packed(t, int(length)+1, array, numberOf(shape)); got != want {
				t.Errorf("the head is %d, want %d", got, want)
			}
			w.wantObject(before, wide, 64)
			w.wantObject(behind, wide, 64)
			w.wantLen("an array", addr, length, api.TrapNone)
		}
	}
}

// P14.2: one element that is written is that one alone.
func TestPutOne(t *testing.T) {
	for shape, address := range arrays() {
		for at := range int64(9) {
			w := begun(t, 8)
			addr := w.make(shape, 10)
			w.wantPut(addr, at, 5, address, true, 1)
			for i := range int64(9) {
				want := int64(0)
				if i == at {
					want = 5
				}
				w.wantAt(addr, i, address, want)
			}
		}
	}
}

// P14.2: TrapIndex below 0 and from the length on, also where the place has more words than the array.
func TestIndexTraps(t *testing.T) {
	for shape, address := range arrays() {
		for _, length := range []int64{0, 1, 2, 3, 4, 30, 31, 32, 62, 63} {
			w := begun(t, 8)
			addr := w.make(shape, int(length)+1)
			for _, i := range wrongIndexes(length) {
				w.wantElementTrap(addr, i, address, api.TrapIndex)
			}
		}
	}
}

// P14.2: TrapNil comes first: of an array that holds otherwise than address says, at every index, also of one with no elements.
func TestNilAheadOfIndex(t *testing.T) {
	for shape, address := range arrays() {
		for _, length := range []int64{0, 1, 2, 63} {
			w := begun(t, 8)
			addr := w.make(shape, int(length)+1)
			for i := range length {
				w.wantElementTrap(addr, i, !address, api.TrapNil)
			}
			for _, i := range wrongIndexes(length) {
				w.wantElementTrap(addr, i, !address, api.TrapNil)
			}
		}
	}
}

// P14.2: TrapNil of what is no array, at every index.
func TestElementsOfOtherKinds(t *testing.T) {
	w := begun(t, 16)
	list := append(nowhere(), w.make(pair, 3), w.make(bare, 1), w.make(wide, 64), w.make(caught, 3), w.make(pipe, 5), w.make(pipes, 9))
	for _, addr := range list {
		for _, i := range append(wrongIndexes(2), 0, 1, 4) {
			w.wantElementTrap(addr, i, false, api.TrapNil)
			w.wantElementTrap(addr, i, true, api.TrapNil)
		}
	}
}

// P14.2: the length of each Kind, of one word and of more, and of what is no object.
func TestLen(t *testing.T) {
	w := begun(t, 128)
	for shape := range shapes {
		for _, words := range []int{1, 2, 3, 4, 5, 33, 63, 64} {
			addr := w.make(shape, words)
			if _, is := arrays()[shape]; is {
				w.wantLen("an array", addr, int64(words)-1, api.TrapNone)
			} else {
				w.wantLen("no array", addr, 0, api.TrapNil)
			}
			w.wantLen("within", addr+1, 0, api.TrapNil)
		}
	}
	for _, addr := range []int64{0, 1, 63, -1, -64, 128 * 64, 512 * 64, math.MaxInt64, math.MinInt64} {
		w.wantLen("no object", addr, 0, api.TrapNil)
	}
	place, _ := w.h.Cycle().Take(8)
	w.wantLen("no head", place, 0, api.TrapNil)
}

// P14.2: an array of addresses keeps what it holds, one of numbers does not.
func TestArraysKeep(t *testing.T) {
	w := begun(t, 8)
	list, other := w.keep(addresses, 4), w.keep(numbers, 4)
	held, lost := w.make(pair, 3), w.make(pair, 3)
	w.wantPut(list, 2, held, true, true, 1)
	w.wantPut(other, 2, lost, false, true, 1)
	w.h.Cycle().Whole(w.r)
	w.wantTaken("kept", list, other, held)
	w.wantAt(list, 2, true, held)
	w.wantAt(other, 2, false, lost)
}
