package sched_test

import (
	"math"
	"slices"
	"testing"

	"gantline/api"
	"gantline/chans"
	"gantline/code"
)

// dice tells numbers that look like chance, and are always the same.
type dice uint64

func (d *dice) below(n int) int {
	*d = *d*6364136223846793005 + 1442695040888963407
	return int(uint64(*d) >> 33 % uint64(n))
}

func (d *dice) one(of ...int) int { return of[d.below(len(of))] }

// edge is the number as a rule, and seldom one that nobody waits for.
func (d *dice) edge(v int) int {
	if d.below(40) > 0 {
		return v
	}
	return d.one(-1, -2, slots, slots+1, 63, 64, math.MinInt, math.MaxInt)
}

func (d *dice) channelSlot() int { return d.edge(d.below(3)) }

func (d *dice) valueSlot() int { return d.edge(d.one(num, num, num, ref)) }

// targetSlot is one to which something comes: -1 is none.
func (d *dice) targetSlot() int { return d.one(d.valueSlot(), d.valueSlot(), d.valueSlot(), none) }

func (d *dice) choice() code.Case {
	switch d.below(10) {
	case 0:
		return code.Case{Kind: 2, Chan: d.channelSlot(), Val: d.valueSlot()}
	case 1, 2, 3, 4:
		return puts(d.channelSlot(), d.valueSlot())
	case 5:
		return code.Case{Kind: d.one(0, 1, 2, 3, -1, math.MaxInt), Chan: d.channelSlot(), Val: d.valueSlot()}
	}
	return gets(d.channelSlot(), d.targetSlot())
}

func (d *dice) instr(cases int) code.Instr {
	switch d.below(10) {
	case 0:
		return code.Instr{Op: d.edge(d.below(45)), A: d.below(5), B: d.below(5), C: d.below(5)}
	case 1, 2, 3:
		return send(d.channelSlot(), d.valueSlot())
	case 4, 5, 6:
		return recv(d.targetSlot(), d.channelSlot())
	}
	from := d.edge(d.below(cases + 1))
	return choose(from, d.edge(d.below(min(6, max(cases-from, 0)+1))))
}

func (d *dice) module() code.Module {
	m := code.Module{Shapes: shapes()}
	for range d.below(16) {
		m.Cases = append(m.Cases, d.choice())
	}
	for range 1 + d.below(4) {
		f := standing(poll())
		f.Code = nil
		for range 1 + d.below(8) {
			f.Code = append(f.Code, d.instr(len(m.Cases)))
		}
		f.Maps = make([]uint64, len(f.Code))
		if d.below(10) == 0 {
			f.Kinds = f.Kinds[:d.below(slots+1)]
		}
		m.Funcs = append(m.Funcs, f)
	}
	return m
}

// addresses are a few: most are channels, and most of these have no room.
func (d *dice) addresses(w *world) []int64 {
	list := []int64{0, w.object(pair, 3)}
	for range 2 + d.below(3) {
		list = append(list, w.channel(d.one(pipe, pipe, pipe, pipes), int64(d.one(0, 0, 0, 1, 2))))
	}
	return list
}

func (d *dice) address(list []int64) int64 {
	if d.below(10) == 0 {
		return list[d.below(2)]
	}
	return list[2+d.below(len(list)-2)]
}

// step does something to a world; ids are those that there should be, and so many numbers were given.
func (d *dice) step(w *world, list []int64, ids []int, last int) ([]int, int) {
	w.t.Helper()
	who := 1 + d.below(last+1)
	switch d.below(12) {
	case 0, 1:
		fn := d.below(len(w.m.Funcs) + 1)
		id, e := w.g.Add(fn, []int64{d.address(list), d.address(list), d.address(list)})
		switch {
		case len(ids) == 64:
			w.wantAdded(id, e, 0, api.ELIMIT)
		case fn == len(w.m.Funcs):
			w.wantAdded(id, e, 0, api.EARG)
		default:
			last++
			w.wantAdded(id, e, last, api.OK)
			ids = append(ids, last)
		}
	case 2:
		if d.below(3) == 0 {
			w.g.Drop(who)
			ids = slices.DeleteFunc(ids, func(id int) bool { return id == who })
		}
	case 3:
		chans.Push(w.h, d.address(list), int64(d.below(9)), who)
	case 4:
		chans.Pop(w.h, d.address(list))
	case 5:
		if d.below(20) == 0 {
			chans.Close(w.h, d.address(list))
		}
	default:
		if s := w.g.Stack(who); s != nil {
			d.move(w, list, who)
		}
	}
	return ids, last
}

// move lets a goroutine stand elsewhere, or hold something else.
func (d *dice) move(w *world, list []int64, id int) {
	s := w.g.Stack(id)
	switch d.below(8) {
	case 0:
		s.Set(d.below(3), d.address(list))
	case 1:
		s.Call(w.m, d.below(len(w.m.Funcs)), []int64{d.address(list), d.address(list), d.address(list)})
	case 2:
		s.Return()
	default:
		s.Jump(d.edge(d.below(8)))
	}
}

func (w *world) wantAdded(id int, e api.Errno, want int, wantErrno api.Errno) {
	w.t.Helper()
	if id != want || e != wantErrno {
		w.t.Fatalf("Add: %d, %d, want %d, %d", id, e, want, wantErrno)
	}
}

// wantLike wants a world to tell what the plain reckoning tells: how many Ways have a partner, how many have none.
func (w *world) wantLike(ids []int, last int) (int, int) {
	w.t.Helper()
	if got := w.g.IDs(); !slices.Equal(got, ids) {
		w.t.Fatalf("IDs: %v, want %v", got, ids)
	}
	var enabled []int
	with, without := 0, 0
	for id := 0; id <= last+1; id++ {
		want := plain{w}.ways(id)
		if got := w.g.Ways(w.h, id); !slices.Equal(got, want) {
			i, _ := plain{w}.next(id)
			w.t.Fatalf("Ways of %d at %v of %v: %v, want %v", id, i, w.m, got, want)
		}
		if len(want) > 0 {
			enabled = append(enabled, id)
		}
		for _, x := range want {
			if x.Partner > 0 {
				with++
			} else {
				without++
			}
		}
	}
	if got := w.g.Enabled(w.h); !slices.Equal(got, enabled) {
		w.t.Fatalf("Enabled: %v, want %v", got, enabled)
	}
	return with, without
}

// P16.1, P16.2: many worlds, against the plain reckoning; and the worlds are such that much is told.
func TestChance(t *testing.T) {
	d, with, without, waiting := dice(16), 0, 0, 0
	for range 1000 {
		w := begunOf(t, d.module())
		list, ids, last := d.addresses(w), []int(nil), 0
		for range 80 {
			ids, last = d.step(w, list, ids, last)
			x, y := w.wantLike(ids, last)
			with, without, waiting = with+x, without+y, waiting+len(ids)-len(w.g.Enabled(w.h))
		}
	}
	if with < 15000 || without < 20000 || waiting < 20000 {
		t.Errorf("%d Ways with a partner, %d without, %d who wait", with, without, waiting)
	}
}

// P16.1: as many as there may be, again and again.
func TestChanceMany(t *testing.T) {
	d, w, limits := dice(17), begun(t, nil, poll()), 0
	var ids []int
	last := 0
	for range 3000 {
		if d.below(10) < 8 {
			id, e := w.g.Add(0, make([]int64, 3))
			if len(ids) == 64 {
				w.wantAdded(id, e, 0, api.ELIMIT)
				limits++
				continue
			}
			last++
			w.wantAdded(id, e, last, api.OK)
			ids = append(ids, id)
		} else if len(ids) > 0 {
			at := d.below(len(ids))
			w.g.Drop(ids[at])
			ids = slices.Delete(ids, at, at+1)
		}
		if !slices.Equal(w.g.IDs(), ids) || !slices.Equal(w.g.Enabled(w.h), ids) {
			t.Fatalf("IDs: %v, Enabled: %v, want %v", w.g.IDs(), w.g.Enabled(w.h), ids)
		}
	}
	if limits < 500 {
		t.Errorf("%d too many", limits)
	}
}

// R1: modules of any numbers: every call ends, and none panics.
func TestAnyNumbers(t *testing.T) {
	d := dice(18)
	for range 300 {
		m := d.module()
		for n := range m.Funcs {
			for k := range m.Funcs[n].Code {
				i := &m.Funcs[n].Code[k]
				for _, v := range []*int{&i.A, &i.B, &i.C, &i.D} {
					*v = d.one(*v, d.edge(d.edge(*v)), math.MaxInt-1, math.MinInt+1, 1<<32)
				}
			}
		}
		w := begunOf(t, m)
		list, ids, last := d.addresses(w), []int(nil), 0
		for range 40 {
			ids, last = d.step(w, list, ids, last)
			w.wantLike(ids, last)
		}
		for _, id := range beyond() {
			w.g.Drop(id)
			if len(w.g.Ways(w.h, id)) != 0 || w.g.Stack(id) != nil {
				t.Fatalf("there is a goroutine %d", id)
			}
		}
	}
}
