package mark_test

import (
	"testing"

	"gantline/head"
)

// P7.1
func TestFieldsOfNew(t *testing.T) {
	w := begun(t)
	for _, addr := range append(nowhere(), 64, 66, 128) {
		w.wantFields(addr)
	}
	w.wantFields(w.take(0))
}

// P7.1: objects of every kind, whose shape tells addresses at the first field, the last, none, all, and some.
func TestFieldsOfKinds(t *testing.T) {
	w := begun(t)
	five := []int64{11, 12, 13, 14, 15}
	for _, kind := range []int{0, 2} {
		for _, c := range []struct {
			m    uint64
			want []int64
		}{
			{1, []int64{11}},
			{1 << 4, []int64{15}},
			{0, nil},
			{31, five},
			{1<<4 | 1, []int64{11, 15}},
			{1<<1 | 1<<3, []int64{12, 14}},
		} {
			w.wantFields(w.thing(head.Shape{Kind: kind, Fields: 5, Map: c.m}, five...), c.want...)
		}
	}
	w.wantFields(w.thing(head.Shape{Kind: 1}, five...))
	w.wantFields(w.thing(head.Shape{Kind: 1, Map: 1}, five...), five...)
	w.wantFields(w.thing(head.Shape{Kind: 3}, five...))
	w.wantFields(w.thing(head.Shape{Kind: 3, Map: 1}, five...), 15)
	w.wantFields(w.thing(head.Shape{Kind: 3, Map: 1}, append(five, 16, 17)...), 15, 16, 17)
	w.wantFields(w.thing(head.Shape{Kind: 3, Map: 1}, five[:4]...))
}

// P7.1: objects of every size, of one word to the most.
func TestFieldsOfSizes(t *testing.T) {
	for words := 1; words <= 64; words++ {
		fields := make([]int64, words-1)
		for k := range fields {
			fields[k] = int64(k + 100)
		}
		w := begun(t)
		w.wantFields(w.thing(head.Shape{Kind: 1, Map: 1}, fields...), fields...)
		w.wantFields(w.thing(head.Shape{Fields: 63, Map: 1<<63 - 1}, fields...), fields...)
		w.wantFields(w.thing(head.Shape{Kind: 2, Fields: 63, Map: 1<<63 - 1}, fields...), fields...)
		w.wantFields(w.thing(head.Shape{Kind: 3, Map: 1}, fields...), fields[min(4, len(fields)):]...)
		if words == 64 {
			w.wantFields(w.thing(head.Shape{Fields: 63, Map: 1 << 62}, fields...), fields[62])
		}
	}
}

// P7.1: a word 0 is left out; the same one is told as often as it is there; a word need be no address.
func TestFieldsWords(t *testing.T) {
	w := begun(t)
	list := head.Shape{Kind: 1, Map: 1}
	w.wantFields(w.thing(list, 0, 0, 0))
	w.wantFields(w.thing(list, 0, 5, 0, 5, 5), 5, 5, 5)
	w.wantFields(w.thing(list, 9, 0, -1, 3, 1<<62, 0), 9, -1, 3, 1<<62)
	self := w.thing(list, 0, 0)
	w.write(self, 1, self)
	w.write(self, 2, self)
	w.wantFields(self, self, self)
}

// P7.1: a head that tells fewer words than the place has, as many, and one more.
func TestFieldsHeadWords(t *testing.T) {
	w := begun(t)
	list := w.number(head.Shape{Kind: 1, Map: 1})
	for class, words := range []int{2, 4, 8, 16, 32, 64} {
		addr := w.take(class)
		var fields []int64
		for at := 1; at < words; at++ {
			w.write(addr, at, int64(at))
			fields = append(fields, int64(at))
		}
		for told := 1; told <= words; told++ {
			w.head(addr, told, 1, list)
			w.wantFields(addr, fields[:told-1]...)
		}
		for told := words + 1; told <= 64; told++ {
			w.head(addr, told, 1, list)
			w.wantFields(addr)
		}
	}
}

// P7.1: a shape of more fields than the object has, and of fewer.
func TestFieldsShapeFields(t *testing.T) {
	w := begun(t)
	three := head.Shape{Fields: 3, Map: 7}
	w.wantFields(w.thing(three, 11), 11)
	w.wantFields(w.thing(three, 11, 12), 11, 12)
	w.wantFields(w.thing(three, 11, 12, 13, 14, 15), 11, 12, 13)
}

// P7.1: it is the shape that says which fields hold addresses, whatever kind the head tells.
func TestFieldsOtherKinds(t *testing.T) {
	w := begun(t)
	six := []int64{11, 12, 13, 14, 15, 16}
	for _, c := range []struct {
		s    head.Shape
		want []int64
	}{
		{head.Shape{Fields: 6, Map: 9}, []int64{11, 14}},
		{head.Shape{Kind: 1, Map: 1}, six},
		{head.Shape{Kind: 1}, nil},
		{head.Shape{Kind: 2, Fields: 6, Map: 32}, []int64{16}},
		{head.Shape{Kind: 3, Map: 1}, []int64{15, 16}},
		{head.Shape{Kind: 3}, nil},
	} {
		addr := w.thing(c.s, six...)
		for kind := range 4 {
			w.head(addr, 7, kind, w.number(c.s))
			w.wantFields(addr, c.want...)
		}
	}
}

// P7.1: a first word that is no head.
func TestFieldsOfNoHead(t *testing.T) {
	w := begun(t)
	w.number(head.Shape{Fields: 3, Map: 7})
	addr := w.link(11, 12, 13)
	w.wantFields(addr, 11, 12, 13)
	for _, word := range []int64{0, -1, 65, 127, 4 + 4<<7, 4 + 7<<7, 4 | 1<<26, 4 | 1<<62, -1<<63 | 4} {
		w.write(addr, 0, word)
		w.wantFields(addr)
	}
	w.write(addr, 0, 4)
	w.wantFields(addr, 11, 12, 13)
}

// P7.1: a head of a shape that the table has not yet.
func TestFieldsOfNoShape(t *testing.T) {
	w := begun(t)
	addr := w.take(1)
	for at := 1; at < 4; at++ {
		w.write(addr, at, int64(at+10))
	}
	for shape, s := range []head.Shape{{Kind: 1, Map: 1}, {Fields: 3, Map: 5}, {Kind: 2, Fields: 3, Map: 2}} {
		for _, missing := range []int{shape, shape + 1, 65535} {
			w.head(addr, 4, s.Kind, missing)
			w.wantFields(addr)
		}
		w.head(addr, 4, s.Kind, shape)
		w.wantFields(addr)
		if n := w.number(s); n != shape {
			t.Fatalf("Number(%v): %d, want %d", s, n, shape)
		}
		w.wantFields(addr, [][]int64{{11, 12, 13}, {11, 13}, {12}}[shape]...)
	}
}

// P7.1: an address that is no place's, inside a place too, or of a place that is taken no more.
func TestFieldsOfNoPlace(t *testing.T) {
	w := begun(t)
	addr := w.link(11, 12, 13)
	// A word inside that would be a head, were it a place's first.
	w.write(addr, 2, 2)
	w.wantFields(addr, 11, 2, 13)
	for k := int64(1); k < 8; k++ {
		w.wantFields(addr + k)
	}
	for _, no := range nowhere() {
		w.wantFields(no)
	}
	w.arena.Sweep(1)
	w.wantFields(addr)
}

// P7.1: what is answered is no one else's memory, and asking marks nothing.
func TestFieldsAreNew(t *testing.T) {
	w := begun(t)
	addr := w.link(11, 12, 13)
	w.wantShade(addr, true, 1)
	w.wantSame("Fields", func() {
		first := w.mark.Fields(addr)
		first = append(first[:cap(first)], 4)
		for k := range first {
			first[k] = 99
		}
		w.wantFields(addr, 11, 12, 13)
		for _, no := range nowhere() {
			w.mark.Fields(no)
		}
	})
}

// P7.1: fields that hold places' addresses are marked by nobody who asks for them.
func TestFieldsMarkNothing(t *testing.T) {
	w := begun(t)
	leaf := w.link()
	addr := w.link(leaf, leaf)
	w.wantSame("Fields", func() { w.wantFields(addr, leaf, leaf) })
	w.wantMarked()
	w.wantLeft(0)
}
