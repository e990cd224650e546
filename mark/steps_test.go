package mark_test

import (
	"testing"

	"gantline/head"
	"gantline/mark"
)

// The chapter's example.
func TestExample(t *testing.T) {
	w := begun(t)
	second := w.link()
	first := w.link(second)
	w.wantShade(first, true, 1)
	w.wantStep(true, 1)
}

// P7.1
func TestNewMarker(t *testing.T) {
	w := begun(t)
	w.link(w.link())
	for range 3 {
		w.wantStep(false, 0)
	}
	w.wantMarked()
}

// P7.1: what was marked ahead of New is not grey, and stays marked.
func TestNewOverMarks(t *testing.T) {
	w := begun(t)
	leaf := w.link()
	addr := w.link(leaf)
	w.arena.Mark(addr)
	w.mark = mark.New(w.arena, w.table)
	w.wantLeft(0)
	w.wantShade(addr, false, 0)
	w.wantStep(false, 0)
	w.wantMarked(addr)
}

// P7.1: the arena and the table are those that were handed in.
func TestNewSharesBoth(t *testing.T) {
	w := begun(t)
	leaf := w.take(0)
	addr := w.take(1)
	w.wantFields(addr)
	w.head(addr, 4, 0, 0)
	w.write(addr, 1, leaf)
	w.wantFields(addr)
	w.number(head.Shape{Fields: 3, Map: 1})
	w.wantFields(addr, leaf)
	w.wantReach([]int64{addr}, leaf, addr)
	w.wantShade(addr, true, 1)
	w.wantMarked(addr)
	w.write(addr, 1, 0)
	w.wantFields(addr)
	w.arena.Clear()
	w.wantShade(addr, true, 2)
}

// P7.1
func TestShade(t *testing.T) {
	w := begun(t)
	a, b := w.link(), w.link()
	w.wantShade(b, true, 1)
	w.wantMarked(b)
	w.wantShade(b, false, 1)
	w.wantShade(a, true, 2)
	w.wantMarked(a, b)
	w.wantShade(a, false, 2)
	w.wantShade(b, false, 2)
}

// P7.1: where no place that is taken begins.
func TestShadeRefuses(t *testing.T) {
	w := begun(t)
	addr := w.link()
	w.wantSame("Shade", func() {
		for _, no := range append(nowhere(), addr+1, addr+2, addr+3, addr+4, addr+8, 128) {
			w.wantShade(no, false, 0)
		}
	})
	w.wantMarked()
	w.wantStep(false, 0)
}

// P7.1: a place need not hold an object to be shaded and looked at.
func TestShadeOfNoObject(t *testing.T) {
	w := begun(t)
	addr := w.take(5)
	w.write(addr, 0, -1)
	w.wantShade(addr, true, 1)
	w.wantStep(true, 0)
	w.wantMarked(addr)
	w.wantStep(false, 0)
}

// P7.1: one that is looked at stays marked: it is shaded no more till the marks are cleared.
func TestShadeBehindStep(t *testing.T) {
	w := begun(t)
	addr := w.link()
	w.wantShade(addr, true, 1)
	w.wantStep(true, 0)
	w.wantShade(addr, false, 0)
	w.arena.Clear()
	w.wantShade(addr, true, 1)
}

// P7.1: the grey ones are looked at as they came, over more than two blocks of the queue.
func TestOrder(t *testing.T) {
	const many = 40
	w := begun(t)
	var parents, leaves []int64
	for range many {
		leaf := w.link()
		leaves = append(leaves, leaf)
		parents = append(parents, w.link(leaf))
	}
	for k := range many {
		// 7 has nothing in common with 40: so each has its turn, out of the order of their addresses.
		w.wantShade(parents[k*7%many], true, k+1)
	}
	want := append([]int64(nil), parents...)
	for k := range many {
		w.wantStep(true, many)
		want = append(want, leaves[k*7%many])
		w.wantMarked(want...)
	}
	for k := range many {
		w.wantStep(true, many-k-1)
	}
	w.wantStep(false, 0)
}

// P7.1: what one leads to is grey behind the others, in the order of its fields.
func TestOrderOfFields(t *testing.T) {
	w := begun(t)
	x2, y2, z2, other2 := w.link(), w.link(), w.link(), w.link()
	z, x, y := w.link(z2), w.link(x2), w.link(y2)
	other := w.link(other2)
	top := w.link(x, y, z)
	w.wantShade(top, true, 1)
	w.wantShade(other, true, 2)
	w.wantStep(true, 4)
	w.wantMarked(top, other, x, y, z)
	w.wantStep(true, 4)
	w.wantMarked(top, other, x, y, z, other2)
	w.wantStep(true, 4)
	w.wantMarked(top, other, x, y, z, other2, x2)
	w.wantStep(true, 4)
	w.wantMarked(top, other, x, y, z, other2, x2, y2)
	w.wantStep(true, 4)
	w.wantMarked(top, other, x, y, z, other2, x2, y2, z2)
}

// P7.1: fields that are grey, that are marked already, and that were looked at.
func TestStepOverMarked(t *testing.T) {
	w := begun(t)
	leaf := w.link()
	grey, marked, done := w.link(), w.link(leaf), w.link()
	w.arena.Mark(marked)
	w.wantShade(done, true, 1)
	w.wantStep(true, 0)
	top := w.link(grey, marked, done)
	w.wantShade(top, true, 1)
	w.wantShade(grey, true, 2)
	w.wantStep(true, 1)
	w.wantStep(true, 0)
	w.wantStep(false, 0)
	// One that was marked and not grey is not looked at: so its leaf is not marked.
	w.wantMarked(top, grey, marked, done)
}

// P7.1: an object that holds itself, one that holds another twice, two that hold each other.
func TestStepOverSame(t *testing.T) {
	w := begun(t)
	self, leaf, there, back := w.link(), w.link(), w.link(), w.link()
	w.write(self, 1, self)
	w.write(self, 2, leaf)
	w.write(self, 3, leaf)
	w.wantShade(self, true, 1)
	w.wantStep(true, 1)
	w.wantMarked(self, leaf)
	w.wantStep(true, 0)
	w.wantStep(false, 0)
	w.write(there, 1, back)
	w.write(back, 2, there)
	w.wantShade(there, true, 1)
	w.wantStep(true, 1)
	w.wantStep(true, 0)
	w.wantStep(false, 0)
	w.wantMarked(self, leaf, there, back)
}

// P7.1: fields whose words are no place's addresses, ahead of one that is.
func TestStepOverNoPlaces(t *testing.T) {
	w := begun(t)
	leaf := w.link()
	w.wantShade(w.thing(head.Shape{Kind: 1, Map: 1}, append(nowhere(), leaf+1, leaf)...), true, 1)
	w.wantStep(true, 1)
	w.wantStep(true, 0)
	w.wantStep(false, 0)
}

// P7.1: fields that hold no addresses lead nowhere, whatever their words are.
func TestStepOverNumbers(t *testing.T) {
	w := begun(t)
	a, b, c := w.link(), w.link(), w.link()
	top := w.thing(head.Shape{Fields: 3, Map: 2}, a, b, c)
	w.wantShade(top, true, 1)
	w.wantStep(true, 1)
	w.wantMarked(top, b)
}

// P7.1: it is what an object holds when it is looked at that counts.
func TestStepLooksLate(t *testing.T) {
	w := begun(t)
	early, late := w.link(), w.link()
	top := w.link(early)
	w.wantShade(top, true, 1)
	w.write(top, 1, late)
	w.wantStep(true, 1)
	w.wantMarked(top, late)
}

// P7.1: a grey one that was given back meanwhile is looked at, with nothing in it.
func TestStepOfGivenBack(t *testing.T) {
	w := begun(t)
	leaf := w.take(0)
	top := w.link(leaf)
	w.wantShade(top, true, 1)
	w.arena.Clear()
	w.arena.Sweep(2)
	w.wantStep(true, 0)
	w.wantMarked()
	w.wantStep(false, 0)
}

// P7.1: the marks are the arena's, the grey ones each marker's own.
func TestTwoMarkers(t *testing.T) {
	w := begun(t)
	leaf, other := w.link(), w.link()
	a, b := w.link(leaf), w.link(leaf, other)
	twin := &world{t, w.arena, w.table, mark.New(w.arena, w.table)}
	w.wantShade(a, true, 1)
	twin.wantLeft(0)
	twin.wantStep(false, 0)
	twin.wantShade(a, false, 0)
	twin.wantShade(b, true, 1)
	w.wantLeft(1)
	w.wantStep(true, 1)
	twin.wantStep(true, 1)
	w.wantMarked(a, b, leaf, other)
	w.wantStep(true, 0)
	w.wantStep(false, 0)
	twin.wantStep(true, 0)
	twin.wantStep(false, 0)
}
