package alloc_test

import (
	"testing"

	"gantline/alloc"
	"gantline/api"
	"gantline/arena"
)

// plain is Alloc and its arena told in the simplest way. Each span is a list of places.
type plain struct {
	class   []int
	places  [][]place
	unswept map[int]struct{}
}

type place struct{ taken, marked bool }

func newPlain(spans int) *plain {
	p := &plain{class: make([]int, spans), places: make([][]place, spans), unswept: map[int]struct{}{}}
	for n := range p.class {
		p.class[n] = -1
	}
	return p
}

func (p *plain) set(span, class int) {
	if p.class[span] < 0 {
		p.class[span], p.places[span] = class, make([]place, 32>>class)
	}
}

// first takes the first place of a span that is free: its address, 0 of none.
func (p *plain) first(span int) int64 {
	for k := range p.places[span] {
		if !p.places[span][k].taken {
			p.places[span][k].taken = true
			return int64(64*span + k*(2<<p.class[span]))
		}
	}
	return 0
}

func (p *plain) sweep(span int) {
	kept := 0
	for k, x := range p.places[span] {
		if !x.marked {
			p.places[span][k] = place{}
		} else {
			kept++
		}
	}
	if kept == 0 {
		p.class[span], p.places[span] = -1, nil
	}
}

func (p *plain) stale() {
	for n, class := range p.class {
		if class >= 0 {
			p.unswept[n] = struct{}{}
		}
	}
}

func (p *plain) isUnswept(span int) bool {
	_, ok := p.unswept[span]
	return ok
}

// visit sweeps a span, if it is unswept: was it?
func (p *plain) visit(span int) bool {
	if !p.isUnswept(span) {
		return false
	}
	delete(p.unswept, span)
	p.sweep(span)
	return true
}

func (p *plain) sweepOne() bool {
	for n := range p.class {
		if p.visit(n) {
			return true
		}
	}
	return false
}

// take goes the chapter's ways one by one.
func (p *plain) take(words int) (int64, api.Errno) {
	if words < 1 || words > 64 {
		return 0, api.EARG
	}
	c := 0
	for 2<<c < words {
		c++
	}
	for n := range p.class {
		if p.class[n] != c {
			continue
		}
		p.visit(n)
		if p.class[n] == c {
			if addr := p.first(n); addr != 0 {
				return addr, api.OK
			}
		}
	}
	for n := 1; n < len(p.class); n++ {
		if p.class[n] < 0 {
			delete(p.unswept, n)
			p.set(n, c)
			return p.first(n), api.OK
		}
	}
	for n := 1; n < len(p.class); n++ {
		if p.visit(n) && p.class[n] < 0 {
			p.set(n, c)
			return p.first(n), api.OK
		}
	}
	return 0, api.EFULL
}

// wantLike wants both to be as the plain one is.
func wantLike(t *testing.T, l *alloc.Alloc, a *arena.Arena, p *plain, step int) {
	t.Helper()
	used := 0
	for n, places := range p.places {
		taken, marked := uint64(0), uint64(0)
		for k, x := range places {
			if x.taken {
				taken |= 1 << k
				used += 2 << p.class[n]
			}
			if x.marked {
				marked |= 1 << k
			}
		}
		wantSpan(t, a, n, p.class[n], taken)
		if got := a.Marked(n); got != marked {
			t.Errorf("Marked(%d): %b, want %b", n, got, marked)
		}
		if got, want := l.Unswept(n), p.isUnswept(n); got != want {
			t.Errorf("Unswept(%d): %v", n, got)
		}
	}
	if got, want := l.Left(), len(p.unswept); got != want {
		t.Errorf("Left(): %d, want %d", got, want)
	}
	if got := l.Used(); got != used {
		t.Errorf("Used(): %d, want %d", got, used)
	}
	if t.Failed() {
		t.Fatalf("behind step %d", step)
	}
}

// mark marks one place that is taken, in both.
func (p *plain) mark(a *arena.Arena, span, k int) {
	if k < len(p.places[span]) && p.places[span][k].taken {
		p.places[span][k].marked = true
		a.Mark(int64(64*span + k*(2<<p.class[span])))
	}
}

func (p *plain) clear() {
	for _, places := range p.places {
		for k := range places {
			places[k].marked = false
		}
	}
}

// P5.1, P5.2: many calls in many orders, of Alloc and of the arena itself, answer as the plain one does.
func TestManyCalls(t *testing.T) {
	for spans := 8; spans < 12; spans++ {
		seed := uint64(spans)
		pick := func(n int) int {
			seed = seed*6364136223846793005 + 1442695040888963407
			return int(seed>>33) % n
		}
		l, a := made(t, spans)
		p := newPlain(spans)
		for step := range 30000 {
			span := 1 + pick(spans-1)
			switch kind := pick(40); {
			case kind < 20:
				words := []int{0, 1, 2, 3, 4, 5, 8, 9, 16, 17, 32, 33, 64, 65}[pick(14)]
				got, e := l.Take(words)
				if want, f := p.take(words); got != want || e != f {
					t.Fatalf("Take(%d): %d, %d, want %d, %d", words, got, e, want, f)
				}
			case kind < 34:
				for range 1 + pick(4) {
					p.mark(a, 1+pick(spans-1), pick(32))
				}
			case kind < 36:
				if got, want := l.SweepOne(), p.sweepOne(); got != want {
					t.Fatalf("SweepOne: %v", got)
				}
			case kind == 36:
				l.Stale()
				p.stale()
			case kind == 37 && pick(3) == 0:
				a.Clear()
				p.clear()
			case kind == 38 && pick(3) == 0:
				a.Sweep(span)
				p.sweep(span)
			case kind == 39 && pick(3) == 0:
				class := pick(6)
				a.Set(span, class)
				p.set(span, class)
			}
			wantLike(t, l, a, p, step)
		}
	}
}
