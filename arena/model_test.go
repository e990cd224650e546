package arena_test

import (
	"testing"

	"gantline/api"
	"gantline/arena"
	"gantline/geom"
)

// plain is an arena told in the simplest way: each place is a list of words of its own.
type plain struct {
	class  []int
	places [][]*place
}

// place is one that is taken; nil stands for one that is not.
type place struct {
	words  []int64
	marked bool
}

func newPlain(spans int) *plain {
	p := &plain{class: make([]int, spans), places: make([][]*place, spans)}
	for n := range p.class {
		p.class[n] = -1
	}
	return p
}

func (p *plain) set(span, class int) api.Errno {
	if span < 1 || span >= len(p.class) || class < 0 || class > 5 {
		return api.EARG
	}
	if p.class[span] >= 0 {
		return api.EFULL
	}
	p.class[span] = class
	p.places[span] = make([]*place, 32>>class)
	return api.OK
}

func (p *plain) take(span int) (int64, api.Errno) {
	if span < 1 || span >= len(p.class) || p.class[span] < 0 {
		return 0, api.ENONE
	}
	for k, x := range p.places[span] {
		if x == nil {
			words := 2 << p.class[span]
			p.places[span][k] = &place{words: make([]int64, words)}
			return int64(64*span + k*words), api.OK
		}
	}
	return 0, api.EFULL
}

// at tells the place that begins at an address; nil, if none does.
func (p *plain) at(addr int64) *place {
	for n, l := range p.places {
		for k, x := range l {
			if addr == int64(64*n+k*(2<<p.class[n])) {
				return x
			}
		}
	}
	return nil
}

func (p *plain) mark(addr int64) bool {
	x := p.at(addr)
	if x == nil || x.marked {
		return false
	}
	x.marked = true
	return true
}

func (p *plain) sweep(span int) int {
	if span < 1 || span >= len(p.class) || p.class[span] < 0 {
		return 0
	}
	gone, kept := 0, 0
	for k, x := range p.places[span] {
		switch {
		case x == nil:
		case x.marked:
			kept++
		default:
			p.places[span][k] = nil
			gone++
		}
	}
	if kept == 0 {
		p.class[span], p.places[span] = -1, nil
	}
	return gone
}

func (p *plain) clear() {
	for _, l := range p.places {
		for _, x := range l {
			if x != nil {
				x.marked = false
			}
		}
	}
}

// wantLike wants an arena to be as the plain one is.
func wantLike(t *testing.T, a *arena.Arena, p *plain) {
	t.Helper()
	for n, l := range p.places {
		taken, marked := uint64(0), uint64(0)
		for k, x := range l {
			if x == nil {
				continue
			}
			taken |= 1 << k
			if x.marked {
				marked |= 1 << k
			}
			for at, want := range x.words {
				addr := geom.Addr(n, k, p.class[n])
				if v, e := a.Read(addr, at); v != want || e != api.OK {
					t.Fatalf("Read(%d, %d): %d, %d, want %d", addr, at, v, e, want)
				}
			}
		}
		wantSpan(t, a, n, p.class[n], taken, marked)
	}
	if t.Failed() {
		t.FailNow()
	}
}

// P4.1, P4.2, P4.3: many calls in many orders answer as the plain arena does.
func TestManyCalls(t *testing.T) {
	seed := uint64(4)
	pick := func(n int) int {
		seed = seed*6364136223846793005 + 1442695040888963407
		return int(seed>>33) % n
	}
	a, p := made(t, 10), newPlain(10)
	for step := range 20000 {
		span, class, addr, at := pick(12)-1, pick(8)-1, int64(pick(720)-20), pick(12)-1
		switch pick(12) {
		case 0, 1:
			if got, want := a.Set(span, class), p.set(span, class); got != want {
				t.Fatalf("Set(%d, %d): %d, want %d", span, class, got, want)
			}
		case 2, 3, 4, 5:
			got, e := a.Take(span)
			if want, f := p.take(span); got != want || e != f {
				t.Fatalf("Take(%d): %d, %d, want %d, %d", span, got, e, want, f)
			}
		case 6, 7:
			if got, want := a.Mark(addr), p.mark(addr); got != want {
				t.Fatalf("Mark(%d): %v, want %v", addr, got, want)
			}
		case 8:
			if got, want := a.Sweep(span), p.sweep(span); got != want {
				t.Fatalf("Sweep(%d): %d, want %d", span, got, want)
			}
		case 9, 10:
			x, want := p.at(addr), api.EARG
			if x != nil && at >= 0 && at < len(x.words) {
				x.words[at], want = int64(step), api.OK
			}
			if e := a.Write(addr, at, int64(step)); e != want {
				t.Fatalf("Write(%d, %d): %d, want %d", addr, at, e, want)
			}
		case 11:
			if pick(8) == 0 {
				a.Clear()
				p.clear()
			}
			a = a.Copy()
		}
		wantLike(t, a, p)
	}
}
