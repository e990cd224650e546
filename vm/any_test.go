package vm_test

import (
	"testing"

	"gantline/code"
	"gantline/op"
)

// word is one that nobody waits for, as a rule.
func (d *dice) word() int64 {
	edges := []int64{0, 1, 2, 3, 4, 5, 58, 63, 64, 65, 66, 68, 72, 128, 192, 511, 512 * 64, 1 << 26, 1<<62 - 1, -1, -64, -1 << 62, -1 << 63, 1<<63 - 1}
	if d.seldom(3) {
		// A head: of any shape, Kind and number of words.
		return int64(d.below(66)) | int64(d.below(5))<<7 | int64(d.below(shapeEnd+4))<<10
	}
	return edges[d.below(len(edges))]
}

// R1: whatever somebody lays into the heap by hand: every call ends, and none panics.
func TestAnyWords(t *testing.T) {
	d := dice(9)
	for range 150 {
		w := begunOn(t, 8, d.module())
		for range 400 {
			ids := w.Enabled()
			if len(ids) == 0 {
				break
			}
			if id := ids[d.below(len(ids))]; !w.Do(id, d.below(w.Ways(id))) {
				t.Fatalf("Do is refused")
			}
			if d.seldom(3) {
				w.Collect()
			}
			if d.seldom(8) {
				w.Heap().Cycle().Arena().Write(int64(64+2*d.below(7*32)), d.below(8), d.word())
			}
			if d.seldom(20) {
				w.Sound()
			}
		}
	}
}

// R1: any numbers of goroutines and ways, at any time: what is refused is refused, and nothing panics.
func TestAnyNumbers(t *testing.T) {
	d := dice(10)
	for range 60 {
		w := begunOn(t, 9, d.module())
		for range 200 {
			for _, n := range beyond() {
				if n > 128 && (w.Do(n, 0) || w.Ways(n) != 0) || n < 0 && (w.Do(1, n) || w.Do(n, 0)) || len(w.Stack(n)) > 0 && n < 0 {
					t.Fatalf("there is a goroutine or a way %d", n)
				}
			}
			w.Do(d.below(9), d.below(4))
			w.Collect()
		}
	}
}

// P17.1: as many goroutines as there may be, each at a select of many cases that fit.
func TestGreatSelects(t *testing.T) {
	const many = 200
	var cases []code.Case
	for range many {
		cases = append(cases, puts(0, 1, 2), gets(0, 1, 1))
	}
	w := begunBy(t, cases,
		begins("an", in(op.Chan, 0, pipe, 1), num(1, 63), poll(), in(op.Go, 1, 0), num(1, 7), jump(2)),
		fn(1, 0, 0, "an", choose(0, 2*many), show(1), end()))
	w.do(1, 1)
	for range 63 {
		for range 4 {
			w.Do(1, 0)
		}
	}
	if got, want := w.Ways(64), 2*many*62*many; got != want {
		t.Errorf("%d Ways, want %d", got, want)
	}
	w.Do(64, 2*many*62*many-1)
	acts := w.Acts()
	last := acts[len(acts)-1]
	if last.ID != 64 || last.Way.Case != 2*many-1 || last.Way.Partner != 63 || last.Way.PartnerCase != 2*many-2 {
		t.Errorf("the last way: %v", last)
	}
	w.do(64, 63)
	w.want("both", "[0] 0 0")
}
