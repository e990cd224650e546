package mark_test

import (
	"slices"
	"testing"

	"gantline/head"
)

// P7.2: of no roots, and of roots that are nothing.
func TestReachNothing(t *testing.T) {
	w := begun(t)
	w.wantReach(nil)
	w.wantReach([]int64{})
	w.wantReach(nowhere())
	addr := w.link()
	w.wantReach(nil)
	w.wantReach(append(nowhere(), addr+1, addr+2, addr+4))
}

// P7.2: of one root, of the same one twice, of several that lead nowhere.
func TestReachRoots(t *testing.T) {
	w := begun(t)
	a, b, c := w.link(), w.link(), w.link()
	w.wantReach([]int64{b}, b)
	w.wantReach([]int64{b, b, b}, b)
	w.wantReach([]int64{c, 0, a, c, -1}, a, c)
	w.wantReach([]int64{c, b, a}, a, b, c)
}

// P7.2: a place that is taken is come to, though no object is in it; it leads nowhere.
func TestReachOfNoObject(t *testing.T) {
	w := begun(t)
	leaf := w.link()
	addr := w.take(1)
	w.write(addr, 1, leaf)
	w.wantReach([]int64{addr}, addr)
	w.wantReach([]int64{w.link(addr)}, addr, addr+4)
}

// P7.2: a chain, whose addresses rise and fall, longer than two blocks.
func TestReachOfChains(t *testing.T) {
	w := begun(t)
	var up []int64
	for range 50 {
		up = append(up, w.link())
	}
	for k := range 49 {
		w.write(up[k], 1, up[k+1])
	}
	w.wantReach(up[:1], up...)
	w.wantReach(up[20:21], up[20:]...)
	w.wantReach(up[49:], up[49])
	w.wantReach([]int64{up[30], up[10], up[20]}, up[10:]...)
	for k := range 49 {
		w.write(up[k], 1, 0)
		w.write(up[k+1], 3, up[k])
	}
	w.wantReach(up[49:], up...)
	w.wantReach(up[20:21], up[:21]...)
	w.wantReach(up[:1], up[0])
}

// P7.2: objects that lead to each other, to themselves, and to one another by two ways.
func TestReachOfRings(t *testing.T) {
	w := begun(t)
	self := w.link()
	w.write(self, 2, self)
	w.wantReach([]int64{self}, self)
	a, b, c, out := w.link(), w.link(), w.link(), w.link()
	w.write(a, 1, b)
	w.write(b, 1, c)
	w.write(c, 1, a)
	w.write(c, 2, b)
	w.write(out, 1, c)
	for _, root := range []int64{a, b, c} {
		w.wantReach([]int64{root}, a, b, c)
	}
	w.wantReach([]int64{out}, a, b, c, out)
	w.wantReach([]int64{out, self, a}, self, a, b, c, out)
}

// P7.2: words that are no places are not come to, and do not hide those behind them.
func TestReachOverNoPlaces(t *testing.T) {
	w := begun(t)
	leaf := w.link()
	list := w.thing(head.Shape{Kind: 1, Map: 1}, append(nowhere(), leaf+1, leaf)...)
	w.wantReach([]int64{list}, leaf, list)
	w.wantReach([]int64{w.thing(head.Shape{Fields: 3, Map: 5}, 0, leaf, 0)}, leaf+4)
}

// P7.2: marks are neither asked nor set, and nobody is grey for it.
func TestReachMarksNothing(t *testing.T) {
	w := begun(t)
	a := w.link()
	b := w.link(a)
	c := w.link(b)
	w.wantSame("Reach", func() { w.wantReach([]int64{c}, a, b, c) })
	w.wantMarked()
	w.wantShade(b, true, 1)
	w.wantSame("Reach", func() { w.wantReach([]int64{c}, a, b, c) })
	w.wantMarked(b)
	w.wantStep(true, 1)
	w.wantStep(true, 0)
	w.wantStep(false, 0)
	w.wantReach([]int64{c}, a, b, c)
	w.wantMarked(a, b)
}

// P7.2: one that was given back is come to no more, nor is what it led to.
func TestReachOfGivenBack(t *testing.T) {
	w := begun(t)
	leaf := w.take(0)
	mid := w.link(leaf)
	top := w.thing(head.Shape{Kind: 1, Map: 1}, mid, 0, 0, 0)
	w.wantReach([]int64{top}, leaf, mid, top)
	w.arena.Sweep(2)
	w.wantReach([]int64{top}, top)
	w.wantReach([]int64{mid})
}

// R4: the roots stay as they are, their spare room too, and the answer is no one else's memory.
func TestReachRootsStay(t *testing.T) {
	w := begun(t)
	a := w.link()
	b := w.link(a)
	room := []int64{b, a, b, 77, 78, 79}
	kept := slices.Clone(room)
	got := w.mark.Reach(room[:3]...)
	if !slices.Equal(room, kept) {
		t.Errorf("Reach changes its roots: %v", room)
	}
	got = got[:cap(got)]
	for k := range got {
		got[k] = 99
	}
	if !slices.Equal(room, kept) {
		t.Errorf("Reach answers its roots: %v", room)
	}
	w.wantReach(room[:3], a, b)
}
