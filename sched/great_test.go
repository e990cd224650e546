package sched_test

import (
	"slices"
	"testing"

	"gantline/api"
	"gantline/code"
	"gantline/sched"
)

// both are so many cases of one channel, that send and receive in turn.
func both(many int) []code.Case {
	return slices.Repeat([]code.Case{puts(a, num), gets(a, num)}, many/2)
}

// P16.2: as many goroutines as there may be, each at a select of as many cases as a module may have.
func TestGreatSelects(t *testing.T) {
	const many = 1024
	w := begun(t, both(many), choose(0, many), choose(0, 4), recv(none, a))
	ch := w.channel(pipe, 0)
	for range api.MaxGos - 2 {
		w.add(0, ch)
	}
	w.add(1, ch)
	w.add(2, ch)
	if got := w.g.Enabled(w.h); !slices.Equal(got, w.g.IDs()) {
		t.Errorf("Enabled: %v", got)
	}
	ways, at := w.g.Ways(w.h, api.MaxGos), 0
	for id := 1; id < api.MaxGos; id++ {
		for k := 0; k < many && (id < api.MaxGos-1 || k < 4); k += 2 {
			if want := (sched.Way{Case: -1, Partner: id, PartnerCase: k}); at >= len(ways) || ways[at] != want {
				t.Fatalf("the Way %d of %d is not %v", at, len(ways), want)
			}
			at++
		}
	}
	if at != len(ways) {
		t.Errorf("%d Ways, want %d", len(ways), at)
	}
}

// P16.2: a select of very many cases, alone: it is no partner of its own, by any of them.
func TestGreatSelectAlone(t *testing.T) {
	const many = 1 << 19
	w := begun(t, append(both(many), other()), choose(0, many), choose(0, many+1))
	w.add(0, w.channel(pipe, 0))
	if got := w.g.Enabled(w.h); len(got) != 0 {
		t.Errorf("Enabled: %v", got)
	}
	if got := w.g.Ways(w.h, 1); len(got) != 0 {
		t.Errorf("%d Ways", len(got))
	}
	w.add(1, w.channel(pipe, 0))
	if got := w.g.Ways(w.h, 2); !slices.Equal(got, []sched.Way{{Case: many, Partner: 0, PartnerCase: -1}}) {
		t.Errorf("Ways: %v", got)
	}
}

// P16.2: the last of a great module's functions, and its last instruction.
func TestGreatModule(t *testing.T) {
	m := code.Module{}
	for range api.MaxFuncs {
		f := standing(poll())
		f.Code = slices.Repeat([]code.Instr{send(a, num)}, api.MaxCode)
		f.Maps = make([]uint64, api.MaxCode)
		m.Funcs = append(m.Funcs, f)
	}
	m.Funcs[api.MaxFuncs-1].Code[api.MaxCode-1] = recv(num, a)
	w := begunOf(t, m)
	ch := w.channel(pipe, 0)
	w.add(api.MaxFuncs-1, ch)
	w.add(0, ch)
	w.want("sends", "1[] 2[] []")
	w.g.Stack(1).Jump(api.MaxCode - 1)
	w.want("at the last", "1[{-1 2 -1}] 2[{-1 1 -1}] [1 2]")
	w.g.Stack(1).Jump(api.MaxCode)
	w.want("behind it", "1[] 2[] []")
}
