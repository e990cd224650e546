package run_test

import (
	"fmt"
	"math"
	"slices"
	"testing"

	"gantline/api"
	"gantline/code"
	"gantline/op"
	"gantline/run"
)

// follows is a Follow and what it tells, and how many of order were done with an Act.
type follows struct {
	name  string
	m     code.Module
	order []int
	gc    int
	want  string
	done  int
}

func wantFollow(t *testing.T, c follows) {
	t.Helper()
	r, done, e := run.Follow(c.m, 8, c.order, c.gc)
	if got := told(r); e != api.OK || got != c.want || done != c.done {
		t.Errorf("%s: Follow: %s, %d, %d, want %s, %d", c.name, got, done, e, c.want, c.done)
	}
}

// P18.2: Follow, from Act to Act, and where it stops.
func TestFollow(t *testing.T) {
	for _, c := range []follows{
		{"no order", printer(), nil, 0, "[] 0 0 0 0 0 0", 0},
		{"an empty order", printer(), []int{}, 9, "[] 0 0 0 0 0 0", 0},
		{"no order, and a deadlock at once", stuck(), nil, 0, "[] 3 0 0 0 0 0", 0},
		{"a deadlock at once", stuck(), []int{1, 1}, 0, "[] 3 0 0 0 0 0", 0},
		{"to the first Act", printer(), []int{1}, 0, "[5] 0 0 2 0 0 1", 1},
		{"to the end", printer(), []int{1, 1}, 0, "[5] 1 0 3 0 0 2", 2},
		{"beyond the end", printer(), ones(1, 9), 0, "[5] 1 0 3 0 0 2", 2},
		{"a trap is no Act", faller(), []int{1, 1, 1}, 0, "[3] 2 3 4 0 0 1", 1},
		{"a deadlock behind an Act", waiter(), []int{1, 1}, 0, "[] 3 0 2 0 0 1", 1},
		{"calls are no Acts", caller(), []int{1}, 0, "[14] 0 0 9 0 0 1", 1},
		{"calls to the end", caller(), []int{1, 1, 1, 1}, 0, "[14 14] 1 0 14 0 0 3", 3},
		{"it comes to wait without an Act", waitsBehind(), []int{1, 1, 1, 2, 1, 2, 1, 1}, 0, "[4] 1 0 9 0 0 6", 6},
		{"nobody goes on behind one that waits", waitsBehind(), []int{1, 1, 1, 1, 2, 2}, 0, "[] 0 0 4 0 0 2", 2},
		{"it waits, and goes on by another's Act", waitsBehind(), []int{1, 1, 1, 2, 2, 1, 1}, 0, "[4] 1 0 9 0 0 6", 6},
		{"the other one waits first", waitsBehind(), []int{1, 1, 2, 1, 2, 1}, 0, "[4] 0 0 8 0 0 5", 5},
		{"nobody goes on behind the other one, either", waitsBehind(), []int{1, 1, 2, 2, 1}, 0, "[] 0 0 4 0 0 2", 2},
		{"one that ends", breeder(), []int{1, 2, 2, 1}, 0, "[] 0 0 3 0 0 2", 2},
		{"one that ends, others then", breeder(), []int{1, 1, 2, 3, 1, 4}, 0, "[] 0 0 11 0 0 6", 6},
		{"memory", hoarder(), ones(1, 999), 0, "[] 4 0 563 1 1 224", 224},
	} {
		wantFollow(t, c)
	}
}

// waitsBehind has a main that begins another one; then each of the two reckons, ahead of the recv or the send where they meet.
func waitsBehind() code.Module {
	return module(nil,
		fn(0, 0, "na", num(0, 0), in(op.Chan, 1, pipe, 0), spawn(1, 1), num(0, 3), recv(0, 1), show(0), end()),
		fn(1, 0, "an", num(1, 4), in(op.Send, 0, 1), end()))
}

// P18.2: it stops at the first of order whose goroutine is not there.
func TestFollowNobody(t *testing.T) {
	for _, number := range []int{0, 3, 4, 64, 65, 999, 1000, 1003, 2000, 2999, 1 << 32 * 1000, -1, -2, -998, -999, -1000, -1999, math.MinInt, math.MinInt + 809, math.MaxInt, math.MaxInt - 807} {
		name := fmt.Sprint("the number ", number)
		wantFollow(t, follows{name, talkers(1), []int{number}, 0, "[] 0 0 0 0 0 0", 0})
		wantFollow(t, follows{name, talkers(1), []int{number, 1, 1, 1}, 0, "[] 0 0 0 0 0 0", 0})
		wantFollow(t, follows{name, talkers(1), []int{1, 1, number, 1, 2}, 0, "[] 0 0 4 0 0 2", 2})
	}
}

// P18.2: a number above 999 tells a way, which is taken modulo the Ways, and a goroutine.
func TestFollowWays(t *testing.T) {
	const three, six = 3, 6
	begins := ones(1, 1+three)
	for number, want := range map[int]string{
		1: "[1]", 1001: "[2]", 2001: "[3]", 3001: "[1]", 4001: "[2]", 999001: "[1]", 1000001: "[2]",
		// 2^63 - 1 is 9223372036854775 * 1000 + 807, and 9223372036854775 is one more than a number of threes
		9223372036854775001: "[2]", 9223372036854774001: "[1]",
	} {
		wantFollow(t, follows{fmt.Sprint("a recv by ", number), talkers(three), append(slices.Clone(begins), number, 1), 0, want + " 0 0 10 0 0 6", 6})
	}
	for number, want := range map[int]string{2: "[1]", 1002: "[1]", 7002: "[1]", 3: "[2]", 5003: "[2]", 9223372036854775004: "[3]"} {
		wantFollow(t, follows{fmt.Sprint("a send by ", number), talkers(three), append(slices.Clone(begins), number, 1), 0, want + " 0 0 10 0 0 6", 6})
	}
	for way := range 20 {
		order := append(ones(1, 8), way*1000+1, 1)
		r, done, e := run.Follow(chooser(), 8, order, 0)
		want := []string{"[11]", "[12]", "[21]", "[22]", "[23]", "[]"}[way%six]
		if got := fmt.Sprint(r.Out[:min(1, len(r.Out))]); way%six < 5 && (got != want || done != 10 || e != api.OK) {
			t.Errorf("a select in the way %d: %s, %d, %d, want %s", way, got, done, e, want)
		}
		if acts := r.Acts; len(acts) < 9 || acts[8].Op != op.Select || acts[8].Way.Case != []int{0, 0, 1, 1, 1, 2}[way%six] {
			t.Errorf("a select in the way %d: %v", way, acts)
		}
	}
}

// P18.2: a way holds for each instruction till the Act, each modulo its own Ways.
func TestFollowWayOfAll(t *testing.T) {
	for way := range 7 {
		order := []int{way*1000 + 1, way*1000 + 1, way*1000 + 1, way*1000 + 1, way*1000 + 1, way*1000 + 1}
		want := fmt.Sprint([]int64{int64(way%3 + 1)}, " 0 0 10 0 0 6")
		wantFollow(t, follows{fmt.Sprint("all in the way ", way), talkers(3), order, 0, want, 6})
	}
}

// P18.2: goroutines of great numbers: 999 is the last that can be told, though there are greater ones; none is told by a number below 0.
func TestFollowGreatNumbers(t *testing.T) {
	const firstThere, there = 969, 62
	order := []int{}
	for id := 2; id < firstThere; id++ {
		order = append(order, 1, id)
	}
	order = append(order, ones(1, there)...)
	acts := len(order)
	for number, id := range map[int]int{
		969: 969, 1969: 969, 999: 999, 1999: 999, 999999: 999, 1: 1, 1001: 1, 1000001: 1,
		968: 0, 1968: 0, 1000: 0, 2000: 0, 1000000: 0, 1023: 0, 1030: 0, 0: 0,
		-1: 0, -31: 0, -969: 0, -999: 0, -1000: 0, -1001: 0, -1999: 0, math.MinInt: 0, math.MinInt + 807: 0, math.MaxInt: 0,
	} {
		r, done, e := run.Follow(breeder(), 8, append(slices.Clone(order), number), 0)
		want := acts
		if id > 0 {
			want++
		}
		if e != api.OK || done != want || len(r.Acts) != want || id > 0 && r.Acts[acts].ID != id {
			t.Errorf("the number %d: %d were done, %d Acts, %d, want %d", number, done, len(r.Acts), e, want)
		}
	}
}

// P18.2: gc from 0 to 9; EARG else, ahead of vm's New's errors, which Follow's words do not name; these then.
func TestFollowRefused(t *testing.T) {
	for _, c := range []struct {
		name  string
		m     code.Module
		spans int
		gc    int
		want  api.Errno
	}{
		{"gc", printer(), 8, -1, api.EARG}, {"gc", printer(), 8, 10, api.EARG}, {"gc", printer(), 8, math.MinInt, api.EARG}, {"gc", printer(), 8, math.MaxInt, api.EARG}, {"gc", printer(), 8, 1 << 32, api.EARG},
		{"gc", printer(), 8, 0, api.OK}, {"gc", printer(), 8, 9, api.OK}, {"gc", printer(), 512, 5, api.OK},
		{"spans", printer(), 7, 0, api.EARG}, {"spans", printer(), 513, 9, api.EARG}, {"spans", printer(), math.MinInt, 0, api.EARG}, {"spans", printer(), math.MaxInt, 0, api.EARG},
		{"module", bad(), 8, 0, api.EBAD}, {"module", code.Module{}, 8, 9, api.EBAD}, {"module and spans", bad(), 7, 0, api.EBAD},
		{"module and gc", bad(), 8, 10, api.EARG}, {"module and gc", bad(), 8, -1, api.EARG}, {"all", bad(), 7, -1, api.EARG}, {"spans and gc", printer(), 7, 10, api.EARG},
	} {
		for _, order := range [][]int{nil, {1, 1}, {7}} {
			r, done, e := run.Follow(c.m, c.spans, order, c.gc)
			if e != c.want || e != api.OK && (done != 0 || !zero(r)) {
				t.Errorf("%s: Follow(%d spans, %v, %d): %s, %d, %d, want %d", c.name, c.spans, order, c.gc, told(r), done, e, c.want)
			}
		}
	}
}

// P18.2: gc times Collect behind each instruction, and nowhere else. A collection of a heap of nothing is five Collects.
func TestFollowCollects(t *testing.T) {
	for gc := range 10 {
		// two instructions, then one more that ends it, behind which there is no Collect
		once, twice := 2*gc/5, 2*gc/5
		wantFollow(t, follows{fmt.Sprint("gc ", gc), printer(), []int{1}, gc, fmt.Sprint("[5] 0 0 2 ", once, " 0 1"), 1})
		wantFollow(t, follows{fmt.Sprint("gc ", gc), printer(), []int{1, 1, 1}, gc, fmt.Sprint("[5] 1 0 3 ", twice, " 0 2"), 2})
		wantFollow(t, follows{fmt.Sprint("gc ", gc), printer(), []int{2}, gc, "[] 0 0 0 0 0 0", 0})
		wantFollow(t, follows{fmt.Sprint("gc ", gc), spinner(), []int{1}, gc, fmt.Sprint("[] 0 0 100000 ", 20000*gc, " 0 0"), 0})
	}
	r, _, _ := run.Follow(litterer(), 8, ones(1, 1000), 0)
	if r.Forced != 8 || r.Collected != 8 {
		t.Errorf("no Collects: %s", told(r))
	}
	r, _, _ = run.Follow(litterer(), 8, ones(1, 1000), 1)
	if r.Forced != 0 || r.Collected < 20 {
		t.Errorf("one Collect: %s", told(r))
	}
}

// counts counts down from great, in three instructions each time, then does so many more, and prints: its print is instruction 99999 + pad.
func counts(pad int) code.Module {
	list := []code.Instr{num(0, smallConsts), num(1, 1), poll(), in(op.Sub, 0, 0, 1), in(op.If, 0, 2)}
	for range pad {
		list = append(list, num(0, 8))
	}
	return module(nil, fn(0, 0, "nn", append(list, show(1), show(1), end())...))
}

// P18.2: it stops behind 100000 instructions: an Act by the last of them counts, one behind it is not done.
func TestFollowStops(t *testing.T) {
	for _, c := range []follows{
		{"a loop", spinner(), []int{1}, 0, "[] 0 0 100000 0 0 0", 0},
		{"a loop, twice", spinner(), []int{1, 1, 1001}, 0, "[] 0 0 100000 0 0 0", 0},
		{"an Act ahead of the last", counts(0), []int{1, 1, 1}, 0, "[1 1] 0 0 100000 0 0 2", 2},
		{"an Act by the last", counts(1), []int{1, 1, 1}, 0, "[1] 0 0 100000 0 0 1", 1},
		{"an Act by the last, and Collects behind it", counts(1), []int{1, 1, 1}, 5, "[1] 0 0 100000 100000 0 1", 1},
		{"an Act behind the last", counts(2), []int{1, 1, 1}, 0, "[] 0 0 100000 0 0 0", 0},
		{"an Act behind the last, others in order", counts(2), []int{1, 2, 1}, 5, "[] 0 0 100000 100000 0 0", 0},
	} {
		wantFollow(t, c)
	}
}

// P18.2: the instructions of all of order are counted together; of others none is done behind them.
func TestFollowStopsAll(t *testing.T) {
	m := module(nil, fn(0, 0, "n", spawn(1, 0), spawn(1, 0), poll(), jump(2)), fn(0, 0, "n", num(0, 6), show(0), end()))
	wantFollow(t, follows{"one that spins last", m, []int{1, 1, 2, 2, 1, 3, 3}, 0, "[6] 0 0 100000 0 0 4", 4})
	wantFollow(t, follows{"one that does not spin", m, []int{1, 1, 2, 2, 3, 3, 3}, 0, "[6 6] 0 0 8 0 0 6", 6})
}

// orders are of all sorts of numbers, most of them those of goroutines that there can be.
func (d *dice) order(length int) []int {
	list := make([]int, length)
	for n := range list {
		list[n] = 1 + d.below(1+d.below(7))
		switch d.below(12) {
		case 0, 1, 2:
			list[n] += 1000 * d.below(9)
		case 3:
			if d.below(20) == 0 {
				list[n] = []int{math.MinInt, math.MaxInt, -1, 0, -999, 1000, 1 << 40}[d.below(7)]
			}
		}
	}
	return list
}

// possible makes an order by going along: it mostly takes who is enabled.
func (d *dice) possible(t *testing.T, m code.Module, spans, length int) []int {
	v := begun(t, m, spans)
	var order []int
	for range length {
		ids := v.Enabled()
		if len(ids) == 0 {
			break
		}
		id, way, acts := ids[d.below(len(ids))], d.below(8), len(v.Acts())
		order = append(order, id+1000*way)
		for n := 0; n < 300 && len(v.Acts()) == acts && v.Ways(id) > 0; n++ {
			v.Do(id, way%v.Ways(id))
		}
	}
	return order
}

// P18.2: many orders, against the chapter's words; and the orders are such that much is told.
func TestFollowLikePlain(t *testing.T) {
	d, ends, all := dice(182), [5]int{}, 0
	for _, c := range modules() {
		name, m := c.name, c.m
		for range 40 {
			spans, gc, order := 8+d.below(4), d.below(10), d.order(d.below(30))
			if d.below(3) > 0 {
				order = d.possible(t, m, spans, d.below(500))
			}
			if name == "spinner" {
				gc = 0
			}
			want, wantDone := plainFollow(begun(t, m, spans), order, gc)
			r, done, e := run.Follow(m, spans, order, gc)
			if e != api.OK || done != wantDone || whole(r) != whole(want) {
				t.Fatalf("%s: Follow of %v, %d: %s, %d, %d, want %s, %d", name, order, gc, whole(r), done, e, whole(want), wantDone)
			}
			ends[r.End]++
			all += done
		}
	}
	if all < 5000 {
		t.Errorf("%d of orders were done", all)
	}
	for end, often := range ends {
		if often < 5 {
			t.Errorf("the end %d came %d times", end, often)
		}
	}
}

// P18.2: whatever the collector does between, what is done is the same, where there is room.
func TestFollowWhateverCollects(t *testing.T) {
	d := dice(183)
	for _, c := range modules() {
		name, m := c.name, c.m
		if name == "spinner" || name == "hoarder" {
			continue
		}
		order := d.possible(t, m, 512, 200)
		first, firstDone, _ := run.Follow(m, 512, order, 0)
		for gc := 1; gc < 10; gc++ {
			r, done, e := run.Follow(m, 512, order, gc)
			r.Collected = first.Collected
			if e != api.OK || done != firstDone || whole(r) != whole(first) {
				t.Errorf("%s: with gc %d: %s, %d, %d, want %s, %d", name, gc, whole(r), done, e, whole(first), firstDone)
			}
		}
	}
}
