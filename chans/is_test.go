package chans_test

import (
	"slices"
	"testing"

	"gantline/api"
	"gantline/chans"
	"gantline/head"
)

// P15.1: of channels of both kinds of elements, with each room, in each phase: none of the calls changes anything.
func TestIsOfChannels(t *testing.T) {
	for phase := range phases {
		w := begun(t, 64)
		for _, room := range rooms() {
			w.keep(w.channel(pipe, room))
			w.keep(w.channel(pipes, room))
		}
		w.to(phase)
		w.wantSame("asked", func() {
			for n, room := range rooms() {
				numbers, addresses := w.r.globals[2*n], w.r.globals[2*n+1]
				w.wantIs("numbers", numbers, true, false)
				w.wantIs("addresses", addresses, false, true)
				w.wantTold("numbers", numbers, room, 0, false)
				w.wantTold("addresses", addresses, room, 0, false)
			}
		})
	}
}

// P15.1: Room, Count and Closed as things come and go, and behind Close.
func TestToldOnAndOn(t *testing.T) {
	for _, shape := range []int{pipe, pipes} {
		for _, room := range rooms() {
			w := begun(t, 8)
			addr := w.channel(shape, room)
			for n := range room {
				w.wantTold("filled", addr, room, n, false)
				w.wantPush("filled", addr, 64, 1, true)
			}
			w.wantTold("full", addr, room, room, false)
			w.wantClose("full", addr, true)
			for n := range room {
				w.wantTold("emptied", addr, room, room-n, true)
				w.wantPop("emptied", addr, 64)
			}
			w.wantTold("empty", addr, room, 0, true)
			w.wantIs("empty", addr, shape == pipe, shape == pipes)
		}
	}
}

// P15.1: objects of the other Kinds are no channels, in each phase, though their fields be such as a channel's.
func TestNoneOfOtherKinds(t *testing.T) {
	for phase := range phases {
		w := begun(t, 64)
		var list []int64
		for _, shape := range others() {
			for _, words := range []int{1, 2, 5, 6, 9, 64} {
				addr := w.keep(w.object(shape, words))
				list = append(list, addr)
				if words >= 6 {
					w.lay(addr, 1+roomAt, 1)
				}
				if words == 9 {
					w.lay(addr, 1+countAt, 1)
					w.lay(addr, 1+thingsAt, 77)
				}
			}
		}
		w.to(phase)
		for _, addr := range list {
			w.wantNone("another Kind", addr)
		}
	}
}

// P15.1: where no object begins there is no channel: 0, below nought, beyond the heap, of an empty heap and of a full one.
func TestNoneNowhere(t *testing.T) {
	empty, full := begun(t, 16), begun(t, 16)
	full.fill(59)
	for _, addr := range nowhere() {
		empty.wantNone("empty", addr)
		full.wantNone("full", addr)
	}
	empty.wantNone("a span of no class", 64)
	full.wantNone("the heap's end", 16*64)
}

// P15.1: at every address of a heap: a channel where one was made, and nowhere else, though a word within looks like a head.
func TestIsEverywhere(t *testing.T) {
	w := begun(t, 24)
	made := map[int64]int{}
	for room := range int64(20) {
		made[w.channel(pipe, room)] = pipe
		made[w.channel(pipes, room)] = pipes
		w.object(pair, 3)
		w.object(addresses, 9)
	}
	word, _ := head.Pack(head.Head{Words: 6, Kind: 3, Shape: pipe})
	for addr := range made {
		for at := 6; at < w.size(addr); at++ {
			w.lay(addr, at, word)
		}
	}
	for addr := int64(-70); addr < 24*64+70; addr++ {
		shape, is := made[addr]
		w.wantIs("everywhere", addr, is && shape == pipe, is && shape == pipes)
		if chans.Closed(w.h, addr) == is || !is && chans.Room(w.h, addr) != 0 {
			t.Errorf("Closed(%d): %v, Room %d", addr, !is, chans.Room(w.h, addr))
		}
	}
}

// P15.1: a place that is taken, with a first word that is no head, or one of a shape that there is not.
func TestNoneOfNoHead(t *testing.T) {
	w := begun(t, 8)
	addr, e := w.h.Cycle().Take(8)
	if e != api.OK {
		t.Fatalf("Take: %d", e)
	}
	w.lay(addr, 1+roomAt, 2)
	w.lay(addr, 1+countAt, 1)
	w.wantNone("no word", addr)
	good, _ := head.Pack(head.Head{Words: 7, Kind: 3, Shape: pipe})
	for _, word := range []int64{-1, good | 1<<26, good | 1<<62, good | 4<<7, good &^ 127, 3 << 7, good + shapes<<10} {
		w.lay(addr, 0, word)
		w.wantNone("no head", addr)
	}
	w.lay(addr, 0, good)
	w.wantIs("a head", addr, true, false)
	w.wantTold("a head", addr, 2, 1, false)
}

// P15.1: one that was given back is none; while its span is unswept, it is there.
func TestNoneOfGivenBack(t *testing.T) {
	w := begun(t, 8)
	held, lost := w.keep(w.channel(pipes, 2)), w.channel(pipes, 2)
	w.to(sweeping)
	w.wantIs("unswept", lost, false, true)
	w.to(off)
	w.wantIs("held", held, false, true)
	w.wantNone("given back", lost)
}

// The chapter leaves it open what an object of the Kind of channels is that has fewer fields than a channel: heap makes it, chans does not.
// By its Kind it is one; what is not there is 0, and it cannot be closed.
func TestOfFewWords(t *testing.T) {
	for words := 1; words < 5; words++ {
		w := begun(t, 8)
		addr := w.object(pipes, words)
		w.wantSame("few words", func() {
			w.wantIs("few words", addr, false, true)
			w.wantTold("few words", addr, 0, 0, false)
			w.wantPush("few words", addr, 64, 1, false)
			w.wantNoPop("few words", addr)
			w.wantClose("few words", addr, false)
		})
	}
}

// R1, R3: whatever stands in a channel's own fields, no call panics, none writes outside the channel's own words, and one that says false changes nothing.
func TestWhateverFieldsSay(t *testing.T) {
	numbers := append(edges(), 2, 3, 4, 59, 60)
	for _, shape := range []int{pipe, pipes} {
		w := begun(t, 8)
		addr, behind, thing := w.channel(shape, 2), w.channel(shape, 2), w.object(pair, 3)
		w.lay(addr, 7, 77) // its place has one word more than it
		w.to(roots)
		for _, room := range numbers {
			for _, count := range numbers {
				for _, first := range numbers {
					for field, v := range []int64{room, count, first, 0, 0, 0} {
						w.lay(addr, 1+field, v)
					}
					w.h.Cycle().Arena().Clear()
					w.wantTold("laid", addr, room, count, false)
					w.wantSameIfFalse("Push", func() bool {
						ok := chans.Push(w.h, addr, thing, 1)
						if in := w.word(addr, 5) == thing || w.word(addr, 6) == thing; in != ok {
							t.Fatalf("Push with %d of %d from %d on: %v, and it is in: %v", count, room, first, ok, in)
						}
						return ok
					})
					w.wantWord("Push", addr, 7, 77)
					w.wantSameIfFalse("Pop", func() bool { _, ok := chans.Pop(w.h, addr); return ok })
					w.wantWord("Pop", addr, 7, 77)
					w.wantClose("laid", addr, true)
				}
			}
		}
		w.wantNew("the one behind", behind, shape, 2)
	}
}

// wantSameIfFalse wants a call that says false to change nothing.
func (w *world) wantSameIfFalse(where string, call func() bool) {
	w.t.Helper()
	before := w.picture()
	if !call() && !slices.Equal(w.picture(), before) {
		w.t.Fatalf("%s says false, and changes something", where)
	}
}

func (w *world) wantWord(where string, addr int64, at int, want int64) {
	w.t.Helper()
	if got := w.word(addr, at); got != want {
		w.t.Fatalf("%s: the word %d of %d is %d, want %d", where, at, addr, got, want)
	}
}
