package sched

import (
	"iter"

	"gantline/code"
	"gantline/heap"
)

// What a Way tells of a goroutine or a case that is none.
const (
	nobody = 0
	noCase = -1
)

// moment is a table and a heap while neither changes.
type moment struct {
	table   *Table
	heap    *heap.Heap
	parties map[side][]party // by rising numbers; nil till somebody looks for a partner
}

// party is a goroutine that stands at a side, and by which of its cases.
type party struct {
	id     int
	places []int // rising
}

// may tells whether a goroutine has a Way. One is enough: a great select can have very many.
func (now *moment) may(g goroutine) bool {
	for range now.ways(g) {
		return true
	}
	return false
}

// ways goes through the Ways of a goroutine.
func (now *moment) ways(g goroutine) iter.Seq[Way] {
	return func(yield func(Way) bool) {
		i, ok := g.stack.At(now.table.module)
		if !ok {
			return
		}
		if !talks(i.Op) {
			yield(Way{noCase, nobody, noCase})
			return
		}
		none := true
		for _, o := range now.offers(g, i) {
			for w := range now.waysOf(g.id, o) {
				none = false
				if !yield(w) {
					return
				}
			}
		}
		if place := defaultOf(casesOf(now.table.module, i)); none && place >= 0 {
			yield(Way{place, nobody, noCase})
		}
	}
}

// waysOf goes through the Ways of one offer of a goroutine.
func (now *moment) waysOf(id int, o offer) iter.Seq[Way] {
	return func(yield func(Way) bool) {
		// A send or recv of no channel falls; a select's case just never comes.
		if !o.is && o.place != noCase {
			return
		}
		if o.ready(now.heap) {
			yield(Way{o.place, nobody, noCase})
			return
		}
		if !o.meets(now.heap) {
			return
		}
		for _, p := range now.at(o.across()) {
			if p.id == id {
				continue
			}
			for _, place := range p.places {
				if !yield(Way{o.place, p.id, place}) {
					return
				}
			}
		}
	}
}

// at are those who stand at a side.
func (now *moment) at(s side) []party {
	// Most instructions need no partner: all goroutines are gone through only if one does.
	if now.parties == nil {
		now.parties = now.gather()
	}
	return now.parties[s]
}

// gather goes through what all goroutines offer: who stands where.
func (now *moment) gather() map[side][]party {
	parties := map[side][]party{}
	for _, g := range now.table.all {
		i, _ := g.stack.At(now.table.module)
		for _, o := range now.offers(g, i) {
			if o.is {
				parties[o.side] = join(parties[o.side], g.id, o.place)
			}
		}
	}
	return parties
}

// join adds a goroutine's case to those who stand at a side: its own cases come one behind the other.
func join(list []party, id, place int) []party {
	if last := len(list) - 1; last >= 0 && list[last].id == id {
		list[last].places = append(list[last].places, place)
		return list
	}
	return append(list, party{id, []int{place}})
}

// offers are what a goroutine may do with channels by an instruction at which it stands, by rising cases.
func (now *moment) offers(g goroutine, i code.Instr) []offer {
	cases := casesOf(now.table.module, i)
	if len(cases) == 0 {
		return nil
	}
	top, _ := g.stack.Top()
	kinds := now.table.module.Funcs[top.Func].Kinds
	var list []offer
	for place, c := range cases {
		if !usesChannel(c) {
			continue
		}
		o := offer{side: sideOf(c, g.stack.Get(c.Chan)), place: placeIn(i, place)}
		o.is = fits(now.heap, o.addr, c, kinds)
		list = append(list, o)
	}
	return list
}
