package vm_test

import (
	"fmt"
	"math"
	"slices"
	"strings"
	"testing"

	"gantline/api"
	"gantline/code"
	"gantline/head"
	"gantline/op"
)

// wantWhat wants an object of that shape and so many words, with fields 0 but those that are told.
func (w world) wantWhat(where string, addr int64, shape head.Shape, words int, fields ...int64) {
	w.t.Helper()
	what, s, ok := w.Heap().Of(addr)
	if !ok || s != shape || what.Words != words || what.Kind != shape.Kind {
		w.t.Errorf("%s: Of(%d): %v, %v, %v, want %v, %d words", where, addr, what, s, ok, shape, words)
		return
	}
	for field := range words - 1 {
		want := int64(0)
		if field < len(fields) {
			want = fields[field]
		}
		if got := w.held(addr, field); got != want {
			w.t.Errorf("%s: field %d: %d, want %d", where, field, got, want)
		}
	}
}

// P17.1: new: of a shape, with its Fields + 1 words.
func TestMakeObjects(t *testing.T) {
	for _, shape := range []int{pair, bare, wide} {
		w := begun(t, begins("naa", in(op.New, 1, shape), in(op.New, 2, shape), in(op.Same, 0, 1, 2), show(0), in(op.Same, 0, 1, 2)))
		w.do(1)
		one := w.Stack(1)[0]
		w.do(1)
		two := w.Stack(1)[1]
		for _, addr := range []int64{one, two} {
			w.wantWhat("new", addr, shapes()[shape], shapes()[shape].Fields+1)
		}
		w.wantActs("new", 0, "[{1 25 0 0 {-1 0 -1}} {1 25 0 1 {-1 0 -1}}]")
		w.wantRun("they are two", "[0] 1 0")
	}
}

// P17.1: array: TrapSize, if the length is not from 0 to 63.
func TestMakeArrays(t *testing.T) {
	for _, shape := range []int{nums, refs} {
		for _, length := range []int64{0, 1, 2, 31, 62, 63} {
			w := begun(t, begins("na", num(0, length), in(op.Array, 1, shape, 0), in(op.Len, 0, 1), show(0)))
			w.do(1, 1)
			w.wantWhat("array", w.Stack(1)[0], shapes()[shape], int(length)+1)
			w.wantActs("array", 0, "[{1 26 0 1 {-1 0 -1}}]")
			w.wantRun("its length", fmt.Sprintf("[%d] 1 0", length))
		}
		for _, length := range []int64{-1, -2, 64, 65, 128, 1 << 32, 1<<32 + 1, least, greatest} {
			w := begun(t, begins("na", num(0, length), in(op.Array, 1, shape, 0), in(op.Len, 0, 1), show(0)))
			w.wantRun(fmt.Sprint("an array of ", length), "[] 2 5")
			w.wantActs("array", 0, "[]")
		}
	}
}

// P17.1: chan: TrapSize, if the room is not from 0 to 59.
func TestMakeChannels(t *testing.T) {
	for _, shape := range []int{pipe, pipes} {
		for _, room := range []int64{0, 1, 2, 58, 59} {
			w := begun(t, begins("na", num(0, room), in(op.Chan, 1, shape, 0), in(op.Close, 1)))
			w.do(1, 1)
			w.wantWhat("chan", w.Stack(1)[0], shapes()[shape], int(room)+5, room)
			w.wantActs("chan", 0, "[{1 37 0 1 {-1 0 -1}}]")
			w.wantRun("it is one", "[] 1 0")
		}
		for _, room := range []int64{-1, -2, 60, 61, 64, 128, 1 << 32, 1<<32 + 1, least, greatest} {
			w := begun(t, begins("na", num(0, room), in(op.Chan, 1, shape, 0), in(op.Close, 1)))
			w.wantRun(fmt.Sprint("a channel with room for ", room), "[] 2 5")
			w.wantActs("chan", 0, "[]")
		}
	}
}

// P17.1: closure: its shape (heap's Add), its words: the function's number, then what it catches, in its place.
func TestMakeClosures(t *testing.T) {
	w := begun(t,
		begins("nanaa", num(0, 5), in(op.New, 1, pair), num(2, 6), in(op.New, 3, pair),
			in(op.Closure, 4, 2, 0), in(op.Store, globalRef, 4), in(op.Closure, 4, 2, 0), in(op.Store, globalRef, 4), in(op.Closure, 4, 1, 0), in(op.Store, globalRef, 4), in(op.Closure, 4, 3, 1), in(op.Get, 0, 1, 0), in(op.Get, 0, 3, 0)),
		begins(""),
		fn(1, 4, 0, "nnana", end()),
		fn(0, 1, 0, "a", end()))
	w.times(1, 4)
	one, two := w.Stack(1)[0], w.Stack(1)[1]
	for n, x := range []struct {
		shape  head.Shape
		fields []int64
		len    int // of the table
	}{
		{head.Shape{Kind: 2, Fields: 5, Map: 4 + 16}, []int64{2, 5, one, 6, two}, shapeEnd + 1},
		{head.Shape{Kind: 2, Fields: 5, Map: 4 + 16}, []int64{2, 5, one, 6, two}, shapeEnd + 1},
		{head.Shape{Kind: 2, Fields: 1}, []int64{1}, shapeEnd + 2},
		{head.Shape{Kind: 2, Fields: 2, Map: 2}, []int64{3, one}, shapeEnd + 2}, // this one the module has, too
	} {
		w.do(1)
		stack := w.Stack(1)
		if n < 3 {
			w.do(1)
			stack = w.Globals()
		}
		if n == 3 {
			// Nobody reads it any more: it is the last one that was taken.
			stack = w.allTaken(2)
		}
		addr := stack[len(stack)-1]
		w.wantWhat("closure", addr, x.shape, x.shape.Fields+1, x.fields...)
		if got := w.Heap().Cycle().Table().Len(); got != x.len {
			t.Errorf("closure %d: %d shapes, want %d", n, got, x.len)
		}
	}
	w.wantActs("closures", 2, "[{1 35 0 5 {-1 0 -1}} {1 35 0 7 {-1 0 -1}} {1 35 0 9 {-1 0 -1}}]")
}

// allTaken are the addresses of all places that are taken, and hold an object of that Kind with two fields.
func (w world) allTaken(kind int) []int64 {
	var list []int64
	for addr := int64(64); addr < int64(w.Heap().Cycle().Arena().Spans())*64; addr++ {
		if what, s, ok := w.Heap().Of(addr); ok && what.Kind == kind && s.Fields == 2 {
			list = append(list, addr)
		}
	}
	return list
}

// P17.1: a closure of as much as can be caught.
func TestGreatClosure(t *testing.T) {
	kinds := strings.Repeat("na", 31)
	list := []code.Instr{}
	for slot := range 62 {
		if slot%2 == 0 {
			list = append(list, num(slot, int64(slot)))
		} else {
			list = append(list, in(op.New, slot, pair), in(op.Set, slot, 0, slot-1))
		}
	}
	list = append(list, in(op.Closure, 63, 1, 0), in(op.Callc, op.None, 63, 0, 0))
	var body []code.Instr
	want := []int64{}
	for slot := range 62 {
		if slot%2 == 0 {
			body = append(body, show(slot))
		} else {
			body = append(body, in(op.Get, 62, slot, 0), show(62))
		}
		want = append(want, int64(slot&^1))
	}
	w := begun(t, begins(kinds+"na", list...), fn(0, 62, 0, kinds+"n", append(body, end())...))
	w.run()
	if got := w.Out(); !slices.Equal(got, want) {
		t.Errorf("Out: %v", got)
	}
}

// P17.1: what is made, read and written: ordinary things, and each trap.
func TestThings(t *testing.T) {
	object := []code.Instr{in(op.New, 3, pair), in(op.New, 4, pair)}
	array := []code.Instr{num(0, 3), in(op.Array, 3, nums, 0), in(op.Array, 4, refs, 0), num(1, 7)}
	with := func(first []code.Instr, more ...code.Instr) []code.Instr { return append(slices.Clone(first), more...) }
	for n, x := range []struct {
		list []code.Instr
		want string
	}{
		{with(object, num(0, greatest), in(op.Set, 3, 0, 0), in(op.Get, 1, 3, 0), show(1), in(op.Get, 1, 4, 0), show(1)), fmt.Sprintf("[%d 0] 1 0", greatest)},
		{with(object, num(0, 5), in(op.Setn, 3, 0, 0), in(op.Get, 1, 3, 0), show(1)), "[5] 1 0"},
		{with(object, in(op.Set, 3, 1, 4), in(op.Get, 5, 3, 1), in(op.Same, 0, 5, 4), show(0), in(op.Nil, 5), in(op.Set, 3, 1, 5), in(op.Get, 4, 3, 1), in(op.Same, 0, 5, 4), show(0)), "[1 1] 1 0"},
		{with(object, in(op.Setn, 3, 1, 4), in(op.Get, 5, 3, 1), in(op.Same, 0, 5, 4), show(0)), "[1] 1 0"},
		{with(object, in(op.Get, 0, 3, 1)), "[] 2 1"}, {with(object, in(op.Get, 5, 3, 0)), "[] 2 1"},
		{with(object, in(op.Set, 3, 1, 0)), "[] 2 1"}, {with(object, in(op.Set, 3, 0, 4)), "[] 2 1"}, {with(object, in(op.Setn, 3, 1, 0)), "[] 2 1"},
		{with(object, in(op.Len, 0, 3)), "[] 2 1"}, {with(object, in(op.At, 0, 3, 0)), "[] 2 1"}, {with(object, in(op.Put, 3, 0, 0)), "[] 2 1"},
		{with(array, in(op.Get, 0, 3, 0)), "[] 2 1"}, {with(array, in(op.Set, 3, 0, 0)), "[] 2 1"},
		{with(array, num(0, 2), in(op.Put, 3, 0, 1), in(op.At, 2, 3, 0), show(2), num(0, 0), in(op.At, 2, 3, 0), show(2), in(op.Len, 2, 3), show(2)), "[7 0 3] 1 0"},
		{with(array, num(0, 2), in(op.Putn, 3, 0, 1), in(op.At, 2, 3, 0), show(2)), "[7] 1 0"},
		{with(array, num(0, 2), in(op.Put, 4, 0, 3), in(op.At, 5, 4, 0), in(op.Same, 2, 5, 3), show(2)), "[1] 1 0"},
		{with(array, num(0, 2), in(op.New, 5, pair), in(op.Putn, 4, 0, 5), in(op.At, 3, 4, 0), in(op.Same, 2, 5, 3), show(2)), "[1] 1 0"},
		{with(array, in(op.At, 0, 4, 0)), "[] 2 1"}, {with(array, in(op.At, 5, 3, 0)), "[] 2 1"}, {with(array, in(op.Put, 3, 0, 4)), "[] 2 1"}, {with(array, in(op.Put, 4, 0, 1)), "[] 2 1"},
		{with(array, num(0, 9), in(op.At, 0, 4, 0)), "[] 2 1"}, {with(array, num(0, 9), in(op.Put, 4, 0, 1)), "[] 2 1"},
		{[]code.Instr{num(0, 5), in(op.Store, globalNum, 0), num(0, 6), in(op.Store, globalNum2, 0), in(op.Load, 1, globalNum), show(1), in(op.Load, 1, globalNum2), show(1)}, "[5 6] 1 0"},
		{with(object, in(op.Store, globalRef, 3), in(op.Store, globalRef2, 4), in(op.Load, 5, globalRef), in(op.Same, 0, 5, 3), show(0), in(op.Load, 5, globalRef2), in(op.Same, 0, 5, 4), show(0)), "[1 1] 1 0"},
	} {
		w := begun(t, begins("nnnaaa", x.list...))
		w.wantRun(fmt.Sprint("number ", n), x.want)
	}
}

// P17.1: fields and elements beyond the end, below 0, of 0, of each thing that has none.
func TestThingsBeyond(t *testing.T) {
	makes := map[string][]code.Instr{
		"nothing": {in(op.Nil, 3)}, "pair": {in(op.New, 3, pair)}, "bare": {in(op.New, 3, bare)}, "wide": {in(op.New, 3, wide)},
		"nums": {num(0, 3), in(op.Array, 3, nums, 0)}, "refs": {num(0, 3), in(op.Array, 3, refs, 0)}, "no nums": {num(0, 0), in(op.Array, 3, nums, 0)},
		"closure": {in(op.Closure, 3, 1, 0)}, "pipe": {in(op.Chan, 3, pipe, 0)}, "pipes": {in(op.Chan, 3, pipes, 0)},
	}
	fields := map[string]int{"pair": 2, "wide": 63}
	for name, list := range makes {
		for _, field := range []int{-1, -2, 0, 1, 2, 3, 62, 63, 64, 65, 1 << 32, -1 << 32, math.MaxInt, math.MinInt} {
			for slot := 1; slot <= 4; slot += 3 {
				has := field >= 0 && field < fields[name] && (field%2 == 1) == (slot == 4)
				for _, i := range []code.Instr{in(op.Get, slot, 3, field), in(op.Set, 3, field, slot)} {
					wantTrap(t, name, list, i, has, api.TrapNil)
				}
			}
		}
		for _, at := range []int64{-1, -2, 0, 1, 2, 3, 63, 64, 1 << 32, 1<<32 + 1, least, greatest} {
			for slot := 1; slot <= 4; slot += 3 {
				isArray := map[bool]string{true: "refs", false: "nums"}[slot == 4] == name || slot == 1 && name == "no nums"
				has, trap := isArray && at >= 0 && at < 3 && name != "no nums", api.TrapNil
				if isArray {
					trap = api.TrapIndex
				}
				for _, i := range []code.Instr{in(op.At, slot, 3, 2), in(op.Put, 3, 2, slot)} {
					wantTrap(t, name, append(slices.Clone(list), num(2, at)), i, has, trap)
				}
			}
		}
		wantTrap(t, name, list, in(op.Len, 1, 3), strings.HasSuffix(name, "nums") || name == "refs", api.TrapNil)
	}
}

// wantTrap wants an instruction behind a list to be done, or to trap; then it is no Act.
func wantTrap(t *testing.T, where string, list []code.Instr, i code.Instr, done bool, trap api.Trap) {
	t.Helper()
	w := begun(t, begins("nnnaa", append(slices.Clone(list), i, poll())...), begins(""))
	w.times(1, len(list))
	acts := len(w.Acts())
	w.do(1)
	want := "[] 0 0"
	if !done {
		want = fmt.Sprintf("[] 2 %d", trap)
	}
	w.want(where+": "+code.Show(i), want)
	if got := len(w.Acts()) == acts+1; got != done {
		t.Errorf("%s: %s: Acts: %v", where, code.Show(i), w.Acts())
	}
}

// P17.1, P17.3: with a trap it still stands there: a slot that would have been written is not asked for.
func TestStandsBehindTrap(t *testing.T) {
	for _, m := range moments() {
		// Slot 1 holds an object that nobody reads any more, till the instruction falls that would write there.
		w := begun(t, begins("naa", in(op.New, 1, pair), in(op.Get, 0, 1, 0), poll(), in(op.Get, 1, 2, 1), in(op.Get, 0, 1, 0)))
		w.times(1, 3)
		w.at(m)
		w.to(off)
		w.to(roots)
		w.to(off)
		w.do(1)
		w.want(m.name, "[] 2 1")
		w.wantSound(m.name)
		if got := w.Stack(1); len(got) != 0 {
			t.Errorf("%s: Stack: %v", m.name, got)
		}
	}
}

// P17.1: what falls writes nothing: a slot that it reads and would write holds what it held.
func TestNothingWrittenByTrap(t *testing.T) {
	for _, i := range []code.Instr{in(op.Get, 1, 1, 9), in(op.At, 1, 1, 0), in(op.Callc, 1, 1, 0, 0), in(op.Recv, 1, 1, 0)} {
		w := begun(t, begins("na", in(op.New, 1, pair), i, in(op.Get, 0, 1, 0)))
		w.do(1, 1)
		w.want(code.Show(i), "[] 2 1")
		if got := w.Stack(1); !slices.Equal(got, []int64{64}) {
			t.Errorf("%s: Stack: %v", code.Show(i), got)
		}
	}
}
