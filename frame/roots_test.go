package frame_test

import (
	"math"
	"testing"

	"gantline/code"
)

// filled is a module of one function of so many slots, with these maps, and the words 1, 2 and so on for its slots.
func filled(slots int, maps ...uint64) (code.Module, []int64) {
	m := oneFunc(slots, 0, slots)
	m.Funcs[0].Maps = maps
	words := make([]int64, slots)
	for k := range words {
		words[k] = int64(k + 1)
	}
	return m, words
}

// P13.2: every map of a few slots, in rising order.
func TestRootsEveryMap(t *testing.T) {
	for set := range uint64(1 << 7) {
		m, words := filled(5, set)
		s := begun(t, m, 0, words...)
		var want []int64
		for slot := range 5 {
			if set>>slot&1 == 1 {
				want = append(want, words[slot])
			}
		}
		wantRoots(t, "map", s, m, want...)
	}
}

// P13.2: each slot of as many as there may be, alone.
func TestRootsEachSlot(t *testing.T) {
	for slot := range 64 {
		m, words := filled(64, 1<<slot)
		wantRoots(t, "slot "+number(slot), begun(t, m, 0, words...), m, words[slot])
	}
	m, words := filled(64, math.MaxUint64)
	wantRoots(t, "all", begun(t, m, 0, words...), m, words...)
}

// P13.2: bits at and beyond the function's slots name none.
func TestRootsBeyondSlots(t *testing.T) {
	for slots := range 64 {
		m, words := filled(slots, math.MaxUint64)
		wantRoots(t, "all bits", begun(t, m, 0, words...), m, words...)
		for bit := slots; bit < 64; bit++ {
			m.Funcs[0].Maps[0] = 1 << bit
			wantRoots(t, "a bit beyond", begun(t, m, 0, words...), m)
		}
	}
}

// P13.2: words that are 0 are left out, words may be any, and as often as they stand there.
func TestRootsWords(t *testing.T) {
	m, _ := filled(5, 0b11111)
	s := begun(t, m, 0, 0, 7, 0, 7, 0)
	wantRoots(t, "noughts", s, m, 7, 7)
	s.Set(0, -1)
	s.Set(2, math.MinInt64)
	s.Set(4, math.MaxInt64)
	s.Set(1, 0)
	wantRoots(t, "any", s, m, -1, math.MinInt64, 7, math.MaxInt64)
	for slot := range 5 {
		s.Set(slot, 0)
	}
	wantRoots(t, "noughts alone", s, m)
}

// P13.2: by the map at the frame's PC.
func TestRootsAtPC(t *testing.T) {
	m, words := filled(4, 1, 2, 4, 8, 0, 15)
	s := begun(t, m, 0, words...)
	for pc, want := range [][]int64{{1}, {2}, {3}, {4}, {}, {1, 2, 3, 4}} {
		s.Jump(pc)
		wantRoots(t, "pc "+number(pc), s, m, want...)
	}
	for _, pc := range edges(6) {
		s.Jump(pc)
		wantRoots(t, "pc "+number(pc), s, m)
	}
}

// P13.2: Maps alone are asked: there may be fewer than code, or more.
func TestRootsMapsAndCode(t *testing.T) {
	m, words := filled(2, 3, 1, 2)
	s := begun(t, m, 0, words...)
	for _, size := range []int{0, 1, 2, 3, 9} {
		m.Funcs[0].Code = make([]code.Instr, size)
		for pc, want := range [][]int64{{1, 2}, {1}, {2}, {}, {}} {
			s.Jump(pc)
			wantRoots(t, "pc "+number(pc), s, m, want...)
		}
	}
	// What lies in the maps' spare room is none of them.
	m.Funcs[0].Maps = m.Funcs[0].Maps[:2]
	s.Jump(2)
	wantRoots(t, "in spare room", s, m)
	m.Funcs[0].Maps = nil
	s.Jump(0)
	wantRoots(t, "no maps", s, m)
}

// P13.2: kinds are not asked: the maps name the slots.
func TestRootsNotKinds(t *testing.T) {
	m, words := filled(3, 5)
	s := begun(t, m, 0, words...)
	for _, kinds := range [][]bool{{false, false, false}, {false, true, false}, {true, true, true}} {
		m.Funcs[0].Kinds = kinds
		wantRoots(t, "kinds", s, m, 1, 3)
	}
}

// P13.2: the first call's ahead, each by the map at its own PC.
func TestRootsOfCalls(t *testing.T) {
	m := yard()
	s := begun(t, m, three, 1, 2, 3)
	s.Set(3, 4)
	wantRoots(t, "one", s, m, 1, 3)
	s.Jump(1)
	call(t, s, m, params, 30, 20, 10)
	wantRoots(t, "two", s, m, 1, 2, 3, 4, 30, 10)
	s.Jump(2)
	wantRoots(t, "two, none of the top's", s, m, 1, 2, 3, 4)
	call(t, s, m, bare)
	call(t, s, m, caught, 7, 6, 5)
	wantRoots(t, "four", s, m, 1, 2, 3, 4, 7, 5)
	s.Jump(-1)
	wantRoots(t, "four, no map of the top's", s, m, 1, 2, 3, 4)
	s.Return()
	s.Return()
	s.Jump(1)
	wantRoots(t, "two again", s, m, 1, 2, 3, 4, 30, 20, 10)
	s.Return()
	wantRoots(t, "one again", s, m, 1, 2, 3, 4)
	s.Return()
	wantRoots(t, "none", s, m)
}

// P13.2: a function that calls itself has a map for each of its calls.
func TestRootsOfOneFunction(t *testing.T) {
	m, _ := filled(2, 1, 2, 3)
	s := begun(t, m, 0, 10, 11)
	for n := int64(2); n < 5; n++ {
		s.Jump(int(n) - 1)
		call(t, s, m, 0, 10*n, 10*n+1)
	}
	wantRoots(t, "four calls", s, m, 11, 20, 21, 40)
}

// P13.2: a module that lacks a function has no maps of it; the others' count.
func TestRootsNoFunction(t *testing.T) {
	m := yard()
	s := begun(t, m, caught, 1, 2, 3)
	call(t, s, m, two)
	s.Set(0, 9)
	call(t, s, m, three, 4, 5, 6)
	wantRoots(t, "all", s, m, 1, 3, 9, 4, 6)
	m.Funcs = m.Funcs[:caught]
	wantRoots(t, "without the first", s, m, 9, 4, 6)
	m.Funcs = m.Funcs[:three]
	wantRoots(t, "without the last", s, m, 9)
	m.Funcs = m.Funcs[:two]
	wantRoots(t, "without any", s, m)
	wantRoots(t, "of nothing", s, code.Module{})
}

// P13.2: as many calls as there may be, of as many slots.
func TestRootsMany(t *testing.T) {
	m, _ := filled(64, math.MaxUint64)
	m.Funcs[0].Params = 0
	s := begun(t, m, 0)
	var want []int64
	for n := range int64(256) {
		if n > 0 {
			call(t, s, m, 0)
		}
		for slot := range int64(64) {
			s.Set(int(slot), n<<8|slot|1<<40)
			want = append(want, n<<8|slot|1<<40)
		}
	}
	wantRoots(t, "all", s, m, want...)
}
