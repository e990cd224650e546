package run_test

import (
	"math"
	"slices"
	"testing"

	"gantline/api"
	"gantline/code"
	"gantline/run"
	"gantline/vm"
)

// wantRun wants Run, and Bytes of the same, to tell this.
func wantRun(t *testing.T, name string, m code.Module, spans int, script []int, want string) {
	t.Helper()
	r, e := run.Run(m, spans, script)
	if got := told(r); e != api.OK || got != want {
		t.Errorf("%s: Run: %s, %d, want %s", name, got, e, want)
	}
	b, e := run.Bytes(code.Encode(m), spans, script)
	if e != api.OK || whole(b) != whole(r) {
		t.Errorf("%s: Bytes: %s, %d, want %s", name, whole(b), e, whole(r))
	}
}

// P18.1: Run, by its ends, and what each tells.
func TestRun(t *testing.T) {
	for _, c := range []struct {
		name   string
		m      code.Module
		script []int
		want   string
	}{
		{"the chapter's", printer(), []int{0, 0, 0}, "[5] 1 0 3 0 0 2"},
		{"no script", printer(), nil, "[] 0 0 0 0 0 0"},
		{"an empty script", printer(), []int{}, "[] 0 0 0 0 0 0"},
		{"not at an end", printer(), []int{0, 0}, "[5] 0 0 2 0 0 1"},
		{"a script beyond the end", printer(), ones(0, 50), "[5] 1 0 3 0 0 2"},
		{"Collects beyond the end", printer(), []int{0, 0, 0, 1, 1, 1, 1, 1, 1, 1, 1}, "[5] 1 0 3 0 0 2"},
		{"a Collect is a step", printer(), []int{1, 0, 1, 0, -1, 0, 1}, "[5] 1 0 6 0 0 2"},
		{"Collects alone", printer(), ones(1, 4), "[] 0 0 4 0 0 0"},
		{"a whole collection", printer(), ones(1, 5), "[] 0 0 5 1 0 0"},
		{"three collections", printer(), ones(-1, 15), "[] 0 0 15 3 0 0"},
		{"the least and the greatest number", printer(), []int{math.MinInt, math.MaxInt, math.MinInt, math.MinInt + 1, math.MinInt}, "[5] 1 0 5 0 0 2"},
		{"a trap", faller(), ones(0, 9), "[3] 2 3 4 0 0 1"},
		{"a deadlock", waiter(), ones(0, 9), "[] 3 0 2 0 0 1"},
		{"a deadlock at once", stuck(), ones(0, 9), "[] 3 0 0 0 0 0"},
		{"a deadlock at once, no script", stuck(), nil, "[] 3 0 0 0 0 0"},
		{"what has no end", spinner(), ones(0, 1000), "[] 0 0 1000 0 0 0"},
		{"in ways", talkers(3), append(ones(0, talking(3)), 10, 0, 5, 0, -5, 0, 0), "[3 2 1] 1 0 15 0 0 11"},
		{"exit among others", talkers(1), append(ones(0, 4), 1, 0, 0, 0), "[1] 1 0 7 0 0 5"},
		{"calls", caller(), ones(0, 99), "[14 14] 1 0 14 0 0 3"},
		{"memory", hoarder(), ones(0, 9999), "[] 4 0 563 1 1 224"},
		{"litter", litterer(), ones(0, 3000), "[] 0 0 3000 8 8 1000"},
	} {
		wantRun(t, c.name, c.m, 8, c.script, c.want)
	}
}

// P18.1: the picks of a collection, between which litter is made, spare a forced one.
func TestRunCollects(t *testing.T) {
	r, e := run.Run(litterer(), 8, slices.Repeat([]int{0, 1, 0, 1, 0, 1}, 1000))
	if e != api.OK || r.Forced != 0 || r.Collected < 20 || r.Steps != 6000 || len(r.Acts) != 1000 {
		t.Errorf("Run: %s, %d", told(r), e)
	}
}

// P18.1: which Acts a Run tells.
func TestRunActs(t *testing.T) {
	r, e := run.Run(talkers(2), 8, append(ones(0, talking(2)), 2, 0, 1))
	want := []vm.Act{{ID: 1, Op: 37, PC: 1}, {ID: 1, Op: 23, PC: 3}, {ID: 1, Op: 23, PC: 5}, {ID: 3, Op: 38, Func: 1}, {ID: 1, Op: 42, PC: 7}, {ID: 2, Op: 38, Func: 1}}
	for n := range want {
		want[n].Way.Case, want[n].Way.PartnerCase = -1, -1
	}
	want[3].Way.Partner, want[5].Way.Partner = 1, 1
	if e != api.OK || !slices.Equal(r.Acts, want) || !slices.Equal(r.Out, []int64{2}) {
		t.Errorf("Run: %v, %v, %d, want %v", r.Acts, r.Out, e, want)
	}
}

// P18.1: vm's New's error, of Run and of Bytes, and nothing else then.
func TestRunRefused(t *testing.T) {
	for _, c := range []struct {
		name  string
		m     code.Module
		spans int
		want  api.Errno
	}{
		{"no function", code.Module{}, 8, api.EBAD}, {"no Main", bad(), 8, api.EBAD}, {"7 spans", printer(), 7, api.EARG}, {"513 spans", printer(), 513, api.EARG},
		{"0 spans", printer(), 0, api.EARG}, {"-8 spans", printer(), -8, api.EARG}, {"the least", printer(), math.MinInt, api.EARG}, {"the greatest", printer(), math.MaxInt, api.EARG},
		{"both", bad(), 7, api.EBAD}, {"both", bad(), 513, api.EBAD}, {"8 spans", printer(), 8, api.OK}, {"512 spans", printer(), 512, api.OK},
	} {
		for _, script := range [][]int{nil, {0}, {0, 1, 0, 1, 0}} {
			r, e := run.Run(c.m, c.spans, script)
			if e != c.want || e != api.OK && !zero(r) {
				t.Errorf("%s: Run: %s, %d, want %d", c.name, told(r), e, c.want)
			}
			r, e = run.Bytes(code.Encode(c.m), c.spans, script)
			if e != c.want || e != api.OK && !zero(r) {
				t.Errorf("%s: Bytes: %s, %d, want %d", c.name, told(r), e, c.want)
			}
		}
	}
}

// P18.1: Decode's error of Bytes comes ahead of all others.
func TestBytesOfNoModule(t *testing.T) {
	b := code.Encode(printer())
	list := [][]byte{nil, {}, {0}, []byte("GOL"), []byte("GOL1"), append(slices.Clone(b), 0), append([]byte{0}, b...)}
	for n := range b {
		list = append(list, b[:n])
	}
	for n := range 4 {
		other := slices.Clone(b)
		other[n]++
		list = append(list, other)
	}
	for _, b := range list {
		for _, spans := range []int{8, 7, 0, -1, 513, math.MaxInt} {
			if r, e := run.Bytes(b, spans, []int{0, 0, 0}); e != api.EFORM || !zero(r) {
				t.Errorf("Bytes of %v on %d spans: %s, %d", b, spans, told(r), e)
			}
		}
	}
}

// P18.1: a Run on more spans fits more.
func TestRunSpans(t *testing.T) {
	before := 0
	for _, spans := range []int{8, 9, 100, 512} {
		r, e := run.Run(hoarder(), spans, ones(0, 99999))
		if e != api.OK || r.End != api.EndMemory || r.Forced != 1 || r.Steps <= before {
			t.Errorf("on %d spans: %s, %d", spans, told(r), e)
		}
		before = r.Steps
	}
}

// scripts are of all sorts of picks.
func (d *dice) script(length, bound int) []int {
	list := make([]int, length)
	for n := range list {
		list[n] = d.below(bound)
		switch d.below(12) {
		case 0:
			list[n] = -list[n]
		case 1:
			list[n] = d.below(1<<30)<<31 + d.below(1<<30)
		case 2:
			list[n] = []int{math.MinInt, math.MaxInt, math.MinInt + 1, -1, 0}[d.below(5)]
		}
	}
	return list
}

// P18.1: many scripts, against the chapter's words; and the scripts are such that much is told.
func TestRunLikePlain(t *testing.T) {
	d, seen := dice(18), [5]int{}
	for _, c := range modules() {
		name, m := c.name, c.m
		for range 40 {
			spans, script := 8+d.below(4), d.script(d.below(3000), 1+d.below(60))
			want := whole(plainRun(begun(t, m, spans), script))
			r, e := run.Run(m, spans, script)
			if e != api.OK || whole(r) != want {
				t.Fatalf("%s: Run of %v: %s, %d, want %s", name, script, whole(r), e, want)
			}
			b, e := run.Bytes(code.Encode(m), spans, script)
			if e != api.OK || whole(b) != want {
				t.Fatalf("%s: Bytes of %v: %s, %d, want %s", name, script, whole(b), e, want)
			}
			seen[r.End]++
		}
	}
	for end, often := range seen {
		if often < 5 {
			t.Errorf("the end %d came %d times", end, often)
		}
	}
}
