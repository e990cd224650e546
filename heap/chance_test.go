package heap_test

import (
	"math"
	"slices"
	"testing"

	"gantline/api"
	"gantline/cycle"
	"gantline/head"
)

// dice tells numbers that look like chance, and are always the same.
type dice uint64

func (d *dice) below(n int) int {
	*d = *d*6364136223846793005 + 1442695040888963407
	return int(uint64(*d) >> 33 % uint64(n))
}

func (d *dice) one(of ...int) int { return of[d.below(len(of))] }

func (d *dice) yes() bool { return d.below(2) == 0 }

// number is below n as a rule, and sometimes at an edge.
func (d *dice) number(n int) int {
	if d.below(10) > 0 && n > 0 {
		return d.below(n)
	}
	return d.one(-1, 0, n, n+1, 63, 64, 65, math.MinInt, math.MaxInt)
}

// shape is Good as a rule.
func (d *dice) shape() head.Shape {
	s := head.Shape{Kind: d.one(plain, plain, array, array, closure, channel)}
	if s.Kind == array || s.Kind == channel {
		s.Map = uint64(d.below(2))
	} else {
		s.Fields = d.below(5)
		s.Map = uint64(d.below(1 << s.Fields))
	}
	if d.below(40) == 0 {
		return head.Shape{Kind: d.number(4), Fields: d.number(63), Map: uint64(d.below(8))}
	}
	return s
}

// twins are a heap and what it should be like, with roots for both.
type twins struct {
	*world
	d *dice
	p *reckoning
}

// addr is that of an object that is held, as a rule; else of one that was, or any number.
func (x *twins) addr(known []int64) int64 {
	switch {
	case x.d.below(12) == 0 || len(known) == 0:
		return int64(x.d.one(0, 0, 64, 65, -64, 63, 128, 130, 448, 512, 513, 1<<40, math.MaxInt, math.MinInt))
	case x.d.below(12) == 0:
		return known[x.d.below(len(known))] + int64(x.d.one(1, 2, -2, 4))
	}
	return known[x.d.below(len(known))]
}

// wantLike wants all that can be told to be the same of both.
func (x *twins) wantLike(where string) {
	x.t.Helper()
	c := x.p.c
	if x.h.Forced() != x.p.forced || x.h.Cycle().Phase() != c.Phase() || x.h.Cycle().Done() != c.Done() || x.h.Cycle().Marker().Left() != c.Marker().Left() {
		x.t.Fatalf("%s: %d forced, phase %d; want %d, %d", where, x.h.Forced(), x.h.Cycle().Phase(), x.p.forced, c.Phase())
	}
	a, b := x.h.Cycle().Arena(), c.Arena()
	for span := range a.Spans() {
		if a.Class(span) != b.Class(span) || a.Taken(span) != b.Taken(span) || a.Marked(span) != b.Marked(span) {
			x.t.Fatalf("%s: the span %d is not the same", where, span)
		}
	}
	for _, addr := range x.taken() {
		for at := range x.room(addr) {
			v, _ := a.Read(addr, at)
			if w, _ := b.Read(addr, at); v != w {
				x.t.Fatalf("%s: the word %d at %d: %d, want %d", where, at, addr, v, w)
			}
		}
	}
}

// makes makes one, by both.
func (x *twins) makes() string {
	x.t.Helper()
	shape, words := x.d.number(len(x.p.shapes)), x.d.number(12)
	if x.d.below(6) == 0 {
		words = x.d.number(66)
	}
	addr, e := x.h.Make(shape, words, x.r)
	if want, no := x.p.make(shape, words, x.r); addr != want || e != no {
		x.t.Fatalf("Make(%d, %d): %d, %d, want %d, %d", shape, words, addr, e, want, no)
	}
	if e == api.OK {
		x.hold(addr)
	}
	return "Make"
}

// hold lets a stack hold it, or the globals, and sometimes nobody; whoever holds much lets go of it.
func (x *twins) hold(addr int64) {
	held := &x.r.globals
	if n := x.d.below(len(x.r.stacks) + 2); n < len(x.r.stacks) {
		held = &x.r.stacks[n].held
	} else if n == len(x.r.stacks) {
		return
	}
	if len(*held) > 5 {
		*held = (*held)[4:]
	}
	*held = append(slices.Clone(*held), addr)
}

// reads asks both for one thing.
func (x *twins) reads(known []int64) {
	x.t.Helper()
	addr, field, address := x.addr(known), x.d.number(5), x.d.yes()
	v, trap := x.h.Get(addr, field, address)
	if want, no := x.p.read(x.p.field(addr, field, address), addr, int64(field)); v != want || trap != no {
		x.t.Fatalf("Get(%d, %d, %v): %d, %d, want %d, %d", addr, field, address, v, trap, want, no)
	}
	addr = x.addr(known)
	v, trap = x.h.At(addr, int64(field), address)
	if want, no := x.p.read(x.p.element(addr, int64(field), address), addr, int64(field)); v != want || trap != no {
		x.t.Fatalf("At(%d, %d, %v): %d, %d, want %d, %d", addr, field, address, v, trap, want, no)
	}
	v, trap = x.h.Len(addr)
	if want, no := x.p.len(addr); v != want || trap != no {
		x.t.Fatalf("Len(%d): %d, %d, want %d, %d", addr, v, trap, want, no)
	}
	what, s, ok := x.h.Of(addr)
	if wantHead, wantShape, is := x.p.of(addr); what != wantHead || s != wantShape || ok != is {
		x.t.Fatalf("Of(%d): %v, %v, %v, want %v, %v, %v", addr, what, s, ok, wantHead, wantShape, is)
	}
}

// writes writes by both: addresses into what holds them, as a rule.
func (x *twins) writes(known []int64) string {
	x.t.Helper()
	addr, field, v, id := x.addr(known), x.d.number(4), x.addr(known), x.d.number(5)
	address, barrier := x.d.yes(), x.d.below(4) > 0
	if x.d.yes() {
		trap := x.h.Set(addr, field, v, address, barrier, id)
		if want := x.p.write(x.p.field(addr, field, address), addr, int64(field), v, address, barrier, id); trap != want {
			x.t.Fatalf("Set(%d, %d, %v): %d, want %d", addr, field, address, trap, want)
		}
		return "Set"
	}
	trap := x.h.Put(addr, int64(field), v, address, barrier, id)
	if want := x.p.write(x.p.element(addr, int64(field), address), addr, int64(field), v, address, barrier, id); trap != want {
		x.t.Fatalf("Put(%d, %d, %v): %d, want %d", addr, field, address, trap, want)
	}
	return "Put"
}

// adds adds a shape to both.
func (x *twins) adds() string {
	x.t.Helper()
	s := x.d.shape()
	n, e := x.h.Add(s)
	if want, no := x.p.add(s); n != want || e != no {
		x.t.Fatalf("Add(%v): %d, %d, want %d, %d", s, n, e, want, no)
	}
	return "Add"
}

// collects lets both collectors go on.
func (x *twins) collects() string {
	n, id := x.d.below(8), x.d.number(4)
	for _, c := range []*cycle.Cycle{x.h.Cycle(), x.p.c} {
		switch n {
		case 0:
			c.Start(x.r)
		case 1:
			c.Scan(x.r, id)
		case 2:
			c.Born(id)
		default:
			c.Step(x.r)
		}
	}
	return "a step"
}

// step does one thing with both.
func (x *twins) step() string {
	x.t.Helper()
	known := slices.Clone(x.r.globals)
	for _, s := range x.r.stacks {
		known = append(known, s.held...)
	}
	x.reads(known)
	switch x.d.below(12) {
	case 0, 1, 2, 3:
		return x.makes()
	case 4:
		return x.adds()
	case 5, 6, 7:
		return x.collects()
	}
	return x.writes(known)
}

// begins tries to make a heap and its twin.
func (d *dice) begins(t *testing.T) (*twins, bool) {
	t.Helper()
	spans, list := d.one(8, 8, 9, 10, 10, 12, 7), []head.Shape(nil)
	for range d.below(9) {
		list = append(list, d.shape())
	}
	p, no := reckon(spans, list)
	if no != api.OK {
		wantNoHeap(t, "chance", spans, list, no)
		return nil, false
	}
	w := &world{t, created(t, spans, list), &holder{stacks: []stack{{id: 3}, {id: 1}, {id: 2}}}}
	return &twins{w, d, p}, true
}

// P14.1, P14.2: against the plain reckoning, over many heaps.
func TestChance(t *testing.T) {
	d := dice(14)
	for range 150 {
		x, ok := d.begins(t)
		for n := 0; ok && n < 500; n++ {
			where := x.step()
			if n%5 == 0 {
				x.wantLike(where)
			}
		}
		if ok {
			x.wantLike("the end")
		}
	}
}

// The heaps are such that much is told.
func TestChanceIsRich(t *testing.T) {
	d, begun, refused, forced, done, grey, kept := dice(14), 0, 0, 0, 0, 0, 0
	for range 150 {
		x, ok := d.begins(t)
		if !ok {
			refused++
			continue
		}
		begun++
		for range 500 {
			x.step()
			grey += x.h.Cycle().Marker().Left()
		}
		forced += x.h.Forced()
		done += x.h.Cycle().Done() - x.h.Forced()
		kept += len(x.taken())
	}
	if begun < 80 || refused < 20 || forced < 50 || done < 300 || grey < 10000 || kept < 1000 {
		t.Errorf("%d begun, %d refused, %d forced, %d done, %d grey, %d kept", begun, refused, forced, done, grey, kept)
	}
}
