package mark_test

import (
	"slices"
	"testing"

	"gantline/head"
)

// model is a marker told in the simplest way: lists, and a search through all of them.
type model struct {
	held   map[int64][]int64 // what each object holds, 0 and all
	marked []int64
	grey   []int64
}

func (m *model) shade(addr int64) bool {
	if _, ok := m.held[addr]; !ok || slices.Contains(m.marked, addr) {
		return false
	}
	m.marked = append(m.marked, addr)
	m.grey = append(m.grey, addr)
	return true
}

func (m *model) step() bool {
	if len(m.grey) == 0 {
		return false
	}
	addr := m.grey[0]
	m.grey = m.grey[1:]
	for _, v := range m.held[addr] {
		m.shade(v)
	}
	return true
}

func (m *model) fields(addr int64) []int64 {
	var all []int64
	for _, v := range m.held[addr] {
		if v != 0 {
			all = append(all, v)
		}
	}
	return all
}

// reach goes over all objects till none is added any more.
func (m *model) reach(roots []int64) []int64 {
	var all []int64
	more := roots
	for len(more) > 0 {
		var next []int64
		for _, addr := range more {
			if _, ok := m.held[addr]; ok && !slices.Contains(all, addr) {
				all = append(all, addr)
				next = append(next, m.held[addr]...)
			}
		}
		more = next
	}
	slices.Sort(all)
	return all
}

// dice tells numbers that look like chance, and are always the same.
type dice uint64

func (d *dice) below(n int) int {
	*d = *d*6364136223846793005 + 1442695040888963407
	return int(uint64(*d) >> 33 % uint64(n))
}

// crowd makes objects of many kinds and sizes, that hold nothing yet.
func crowd(w *world, d *dice, m *model) []int64 {
	var all []int64
	for range 60 {
		fields := make([]int64, d.below(12))
		kind := d.below(4)
		s := head.Shape{Kind: kind, Map: uint64(d.below(2))}
		if kind == 0 || kind == 2 {
			s = head.Shape{Kind: kind, Fields: 12, Map: uint64(d.below(1 << 12))}
		}
		addr := w.thing(s, fields...)
		m.held[addr] = nil
		all = append(all, addr)
	}
	return all
}

// fill writes words into all fields of an object, and tells the model of those that hold addresses.
func fill(w *world, d *dice, m *model, all []int64, addr int64) {
	word, _ := w.arena.Read(addr, 0)
	h, _ := head.Unpack(word)
	s, _ := w.table.Shape(h.Shape)
	m.held[addr] = nil
	for field := range h.Words - 1 {
		v := int64(0)
		if d.below(3) == 0 {
			v = all[d.below(len(all))] + int64(d.below(5)/4)
		}
		w.write(addr, field+1, v)
		if s.Holds(field, h.Words) {
			m.held[addr] = append(m.held[addr], v)
		}
	}
}

// compare wants a marker to be like its model.
func compare(w *world, m *model, addr int64) {
	w.t.Helper()
	w.wantFields(addr, m.fields(addr)...)
	w.wantLeft(len(m.grey))
	w.wantMarked(m.marked...)
}

// P7.1 and P7.2, over many calls.
func TestAgainstModel(t *testing.T) {
	for seed := range 12 {
		w, d, m := begun(t), dice(seed), &model{held: map[int64][]int64{}}
		all := crowd(w, &d, m)
		for _, addr := range all {
			fill(w, &d, m, all, addr)
		}
		for range 600 {
			addr := all[d.below(len(all))]
			switch d.below(12) {
			case 0, 1:
				shaded := m.shade(addr)
				w.wantShade(addr, shaded, len(m.grey))
			case 2:
				w.wantShade(addr+1, false, len(m.grey))
			case 3:
				fill(w, &d, m, all, addr)
			case 4:
				roots := []int64{addr, all[d.below(len(all))], addr + 1}[:d.below(4)]
				w.wantReach(roots, m.reach(roots)...)
			case 5:
				if d.below(8) == 0 {
					w.arena.Clear()
					m.marked = nil
				}
			default:
				stepped := m.step()
				w.wantStep(stepped, len(m.grey))
			}
			compare(w, m, addr)
		}
		if t.Failed() {
			t.Fatalf("with seed %d", seed)
		}
	}
}
