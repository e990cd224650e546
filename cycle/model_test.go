package cycle_test

import (
	"slices"
	"testing"

	"gantline/api"
	"gantline/head"
)

// object is what a model keeps of a place that is taken.
type object struct {
	serial int     // no two have the same, though a place be taken again
	fields []int64 // all that its object has
	leads  bool    // do these hold addresses?
}

// model is a heap and its collector, told in the simplest way: lists, and a search through all of them.
type model struct {
	h       *holder
	size    []int  // of a place, for each span; 0, if it has no class
	unswept []bool // for each span
	objects map[int64]*object
	marked  map[int64]bool
	grey    []int64
	black   map[int]bool
	phase   int
	done    int
	kept    int
	serial  int
}

func modelOf(h *holder, spans int) *model {
	return &model{
		h: h, size: make([]int, spans), unswept: make([]bool, spans),
		objects: map[int64]*object{}, marked: map[int64]bool{}, black: map[int]bool{}, kept: 64,
	}
}

// free tells the first place of a span that is not taken.
func (m *model) free(span int) (int64, bool) {
	for at := 0; m.size[span] > 0 && at < 64; at += m.size[span] {
		if addr := int64(64*span + at); m.objects[addr] == nil {
			return addr, true
		}
	}
	return 0, false
}

func (m *model) sweep(span int) {
	left := 0
	for addr := range m.objects {
		if int(addr/64) != span {
			continue
		}
		if m.marked[addr] {
			left++
		} else {
			delete(m.objects, addr)
		}
	}
	m.unswept[span] = false
	if left == 0 {
		m.size[span] = 0
	}
}

// find tells a place of so many words that is free, and sweeps what alloc sweeps.
func (m *model) find(size int) (int64, bool) {
	for span := 1; span < len(m.size); span++ {
		if m.size[span] != size {
			continue
		}
		if m.unswept[span] {
			m.sweep(span)
		}
		if addr, ok := m.free(span); ok {
			return addr, true
		}
	}
	empty := slices.Index(m.size[1:], 0) + 1
	for span := 1; empty == 0 && span < len(m.size); span++ {
		if m.unswept[span] {
			m.sweep(span)
			if m.size[span] == 0 {
				empty = span
			}
		}
	}
	if empty == 0 {
		return 0, false
	}
	m.size[empty] = size
	return int64(64 * empty), true
}

func (m *model) take(fields []int64, leads bool) (int64, api.Errno) {
	size := 2
	for size < len(fields)+1 {
		size *= 2
	}
	addr, ok := m.find(size)
	if !ok {
		return 0, api.EFULL
	}
	m.serial++
	m.objects[addr] = &object{m.serial, fields, leads}
	if m.shades() {
		m.marked[addr] = true
	}
	return addr, api.OK
}

func (m *model) shades() bool { return m.phase == roots || m.phase == marking }

func (m *model) shade(addrs ...int64) {
	for _, addr := range addrs {
		if m.objects[addr] != nil && !m.marked[addr] {
			m.marked[addr] = true
			m.grey = append(m.grey, addr)
		}
	}
}

func (m *model) start() bool {
	if m.phase != off {
		return false
	}
	clear(m.marked)
	clear(m.black)
	m.phase = roots
	m.shade(m.h.globals...)
	return true
}

// waiting tells those stacks that are not black, by rising numbers.
func (m *model) waiting() []int {
	ids := slices.DeleteFunc(m.h.Stacks(), func(id int) bool { return m.black[id] })
	slices.Sort(ids)
	return ids
}

func (m *model) scan(id int) bool {
	if !m.shades() || !slices.Contains(m.waiting(), id) {
		return false
	}
	m.shade(m.h.Stack(id)...)
	m.black[id] = true
	return true
}

func (m *model) step() bool {
	waiting := m.waiting()
	switch {
	case m.phase == off:
		return false
	case m.phase == roots && len(waiting) > 0:
		m.scan(waiting[0])
	case m.phase == roots:
		m.phase = marking
	case m.phase == marking && len(m.grey) > 0:
		addr := m.grey[0]
		m.grey = m.grey[1:]
		m.shade(m.leads(addr)...)
	case m.phase == marking && len(waiting) > 0:
		m.phase = roots
	case m.phase == marking:
		m.phase = sweeping
		for span, size := range m.size {
			m.unswept[span] = size > 0
		}
	case slices.Contains(m.unswept, true):
		m.sweep(slices.Index(m.unswept, true))
	default:
		m.phase = off
		m.done++
		m.kept = max(64, m.used())
	}
	return true
}

// leads tells to where an object leads.
func (m *model) leads(addr int64) []int64 {
	if o := m.objects[addr]; o != nil && o.leads {
		return o.fields
	}
	return nil
}

func (m *model) used() int {
	used := 0
	for addr := range m.objects {
		used += m.size[addr/64]
	}
	return used
}

// reached tells all that can be come to, and wants it to be there.
func (m *model) reached(t *testing.T) map[int64]bool {
	t.Helper()
	all := map[int64]bool{}
	more := m.h.all()
	for len(more) > 0 {
		addr := more[0]
		more = more[1:]
		if addr == 0 || all[addr] {
			continue
		}
		if m.objects[addr] == nil {
			t.Fatalf("%d is reached, and was given back", addr)
		}
		all[addr] = true
		more = append(more, m.leads(addr)...)
	}
	return all
}

// play is a heap and its model, to which the same is done.
type play struct {
	*world
	m    *model
	d    dice
	dead map[int]bool // the serials of what was not reached when the collection began
}

// pick tells one of a list, or 0 of none.
func pick[T any](d *dice, list []T) (one T) {
	if len(list) > 0 {
		one = list[d.below(len(list))]
	}
	return one
}

// make makes an object, and gives it to a stack.
func (p *play) make(s *stack) {
	words := []int{1, 2, 3, 3, 4, 4, 5, 7, 9, 12, 20, 40, 64}[p.d.below(13)]
	leads := p.d.below(5) > 0
	fields := make([]int64, words-1)
	addr, e := p.c.Take(words)
	if want, no := p.m.take(fields, leads); addr != want || e != no {
		p.t.Fatalf("Take(%d): %d, %d, want %d, %d", words, addr, e, want, no)
	}
	if e != api.OK {
		return
	}
	shape := head.Shape{Kind: 1}
	if leads {
		shape.Map = 1
	}
	number, _ := p.c.Table().Number(shape)
	word, _ := head.Pack(head.Head{Words: words, Kind: 1, Shape: number})
	p.write(addr, 0, word)
	s.held = append(s.held, addr)
}

// barrier tells both of a write.
func (p *play) barrier(old, fresh int64, id int) {
	p.c.Barrier(old, fresh, id)
	if p.m.shades() {
		p.m.shade(old)
		if !p.m.black[id] {
			p.m.shade(fresh)
		}
	}
}

// store writes what a stack holds into a field of what it holds; 0 now and then.
func (p *play) store(s *stack) {
	addr, v := pick(&p.d, s.held), pick(&p.d, s.held)
	o := p.m.objects[addr]
	if o == nil || len(o.fields) == 0 {
		return
	}
	if p.d.below(4) == 0 {
		v = 0
	}
	field := p.d.below(len(o.fields))
	if o.leads {
		p.barrier(o.fields[field], v, s.id)
	}
	o.fields[field] = v
	p.write(addr, field+1, v)
}

// load reads a field, and gives it to a stack.
func (p *play) load(s *stack) {
	if v := pick(&p.d, p.m.leads(pick(&p.d, s.held))); v != 0 {
		s.held = append(s.held, v)
	}
}

// global reads a global one, or writes it.
func (p *play) global(s *stack) {
	n := p.d.below(len(p.h.globals))
	if v := p.h.globals[n]; p.d.below(2) == 0 {
		s.held = append(s.held, v)
		return
	}
	v := pick(&p.d, s.held)
	p.barrier(p.h.globals[n], v, s.id)
	p.h.globals[n] = v
}

// spawn makes a stack that holds some of what another one holds: it is born with that shaded, or comes unseen.
func (p *play) spawn(s *stack) {
	id := p.d.below(9) - 1
	if slices.Contains(p.h.Stacks(), id) {
		return
	}
	held := slices.Clone(s.held[:p.d.below(len(s.held)+1)])
	if p.d.below(3) > 0 {
		if p.m.shades() {
			for _, addr := range held {
				p.c.Marker().Shade(addr)
			}
			p.m.shade(held...)
			p.m.black[id] = true
		}
		p.c.Born(id)
	}
	p.h.comes(id, held...)
}

// dies ends a stack.
func (p *play) dies(id int) {
	p.c.Dies(id)
	delete(p.m.black, id)
	p.h.goes(id)
}

// start begins a collection, and remembers what is dead by then.
func (p *play) start() {
	want := p.m.start()
	if got := p.c.Start(p.h); got != want {
		p.t.Fatalf("Start(): %v", got)
	}
	if want {
		p.remember()
	}
}

func (p *play) remember() {
	p.dead = map[int]bool{}
	reached := p.m.reached(p.t)
	for addr, o := range p.m.objects {
		if !reached[addr] {
			p.dead[o.serial] = true
		}
	}
}

// step goes on, and wants what was dead to be given back when it is done.
func (p *play) step() {
	done := p.m.done
	want := p.m.step()
	if got := p.c.Step(p.h); got != want {
		p.t.Fatalf("Step(): %v", got)
	}
	if p.m.done > done {
		p.wantDeadGone()
	}
}

func (p *play) wantDeadGone() {
	p.t.Helper()
	for addr, o := range p.m.objects {
		if p.dead[o.serial] {
			p.t.Fatalf("%d was not reached when it began, and is there when it is done", addr)
		}
	}
}

// whole does a whole collection, of both.
func (p *play) whole() {
	for p.m.step() {
	}
	p.m.start()
	p.remember()
	for p.m.step() {
	}
	p.wantDeadGone()
	p.c.Whole(p.h)
}

// wrong does what is refused, or leads to nothing.
func (p *play) wrong(s *stack) {
	no := pick(&p.d, nowhere())
	p.barrier(no, pick(&p.d, nowhere()), s.id)
	if _, e := p.c.Take(65 + p.d.below(3)); e != api.EARG {
		p.t.Fatalf("Take of too many: %d", e)
	}
	id := pick(&p.d, numbers())
	want := p.m.scan(id)
	if got := p.c.Scan(p.h, id); got != want {
		p.t.Fatalf("Scan(%d): %v", id, got)
	}
	if !slices.Contains(p.h.Stacks(), id) {
		p.dies(id)
	}
}

// turn does one thing, by one of the stacks.
func (p *play) turn() {
	s := &p.h.stacks[p.d.below(len(p.h.stacks))]
	switch p.d.below(40) {
	case 0, 1, 2, 3, 4, 5, 6, 7:
		p.make(s)
	case 8, 9, 10, 11, 12, 13, 14:
		p.store(s)
	case 15, 16, 17, 18:
		p.load(s)
	case 19, 20, 21:
		p.global(s)
	case 22, 23:
		s.held = slices.Clone(s.held[len(s.held)*p.d.below(3)/2:])
	case 24:
		p.spawn(s)
	case 25:
		if len(p.h.stacks) > 1 {
			p.dies(s.id)
		}
	case 26:
		p.wrong(s)
	case 27:
		want := p.m.scan(s.id)
		p.wantScan(s.id, want, p.m.black[s.id])
	case 28, 29:
		p.start()
	case 30:
		if p.d.below(10) == 0 {
			p.whole()
		}
	default:
		p.step()
	}
}

// compare wants the heap to be like its model, and all that is reached to be there.
func (p *play) compare() {
	p.t.Helper()
	p.wantPhase(p.m.phase)
	p.wantDone(p.m.done)
	p.wantLeft(len(p.m.grey))
	p.wantWants(p.m.phase == off && p.m.used() >= 2*p.m.kept)
	var black []int
	for id := range p.m.black {
		black = append(black, id)
	}
	p.wantBlack(black...)
	var taken, marked []int64
	for addr, o := range p.m.objects {
		taken = append(taken, addr)
		if p.m.marked[addr] {
			marked = append(marked, addr)
		}
		// Behind its fields a place may have words that no object uses: nobody writes them.
		want := append(slices.Clone(o.fields), make([]int64, p.m.size[addr/64]-1-len(o.fields))...)
		if got := p.written(addr); len(got) == 0 || !slices.Equal(got[1:], want) {
			p.t.Errorf("words of %d: %v, want a head and %v", addr, got, want)
		}
	}
	p.wantTaken(taken...)
	p.wantMarked(marked...)
	p.m.reached(p.t)
}

// P8.1 to P8.4, over many collections in a row, with all that may be done between their steps.
func TestAgainstModel(t *testing.T) {
	for seed := range 24 {
		spans := []int{8, 9, 12, 16}[seed%4]
		w := sized(t, spans)
		w.h.globals = make([]int64, 4)
		w.h.comes(1)
		p := &play{world: w, m: modelOf(w.h, spans), d: dice(seed)}
		for n := range 3000 {
			p.turn()
			p.compare()
			if t.Failed() {
				t.Fatalf("with seed %d, at turn %d", seed, n)
			}
		}
		if p.m.done < 20 {
			t.Errorf("seed %d: only %d collections", seed, p.m.done)
		}
	}
}
