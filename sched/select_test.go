package sched_test

import (
	"fmt"
	"math"
	"testing"

	"gantline/code"
)

// P16.2: a select without cases has no Way, and is nobody's partner.
func TestSelectOfNone(t *testing.T) {
	w := begun(t, []code.Case{gets(a, num), other()}, choose(0, 0), choose(2, 0), send(a, num))
	ch := w.channel(pipe, 0)
	for fn := range 3 {
		w.add(fn, ch)
	}
	w.want("no cases", "1[] 2[] 3[] []")
}

// P16.2, chapter 10: a select whose cases are not all there has none, so no Way, and is nobody's partner.
func TestSelectNotAllThere(t *testing.T) {
	for _, x := range [][2]int{
		{0, 4}, {1, 3}, {2, 2}, {3, 1}, {4, 1}, {-1, 2}, {-1, 1}, {-3, 6}, {0, -1}, {2, -1}, {3, -3},
		{0, math.MaxInt}, {1, math.MaxInt}, {math.MaxInt, 1}, {math.MaxInt, math.MaxInt}, {math.MinInt, 3},
		{math.MinInt, math.MinInt}, {0, math.MinInt}, {math.MinInt, math.MaxInt}, {2, 1 << 32}, {1 << 32, 1},
	} {
		w := begun(t, []code.Case{other(), gets(a, num), gets(a, num)}, choose(x[0], x[1]), send(a, num))
		ch := w.channel(pipe, 0)
		w.add(0, ch)
		w.add(1, ch)
		w.want(fmt.Sprint("cases ", x), "1[] 2[] []")
		w.g.Stack(1).Set(a, w.channel(pipe, 1, 7))
		w.want(fmt.Sprint("cases with a thing ", x), "1[] 2[] []")
	}
}

// P16.2: which of the module's cases are its own; places are told from 0 on.
func TestSelectFrom(t *testing.T) {
	cases := []code.Case{gets(a, num), other(), gets(b, num), puts(b, num), other(), puts(c, num)}
	for _, x := range []struct {
		from, many int
		want       string
	}{
		{0, 1, "1[{0 0 -1}] [1]"}, {0, 2, "1[{0 0 -1}] [1]"}, {1, 1, "1[{0 0 -1}] [1]"}, {2, 1, "1[] []"},
		{2, 2, "1[{1 0 -1}] [1]"}, {3, 1, "1[{0 0 -1}] [1]"}, {2, 4, "1[{1 0 -1} {3 0 -1}] [1]"}, {4, 2, "1[{1 0 -1}] [1]"},
		{5, 1, "1[{0 0 -1}] [1]"}, {0, 6, "1[{0 0 -1} {3 0 -1} {5 0 -1}] [1]"},
	} {
		w := begun(t, cases, choose(x.from, x.many))
		w.add(0, w.channel(pipe, 1, 7), w.channel(pipe, 1), w.channel(pipe, 2, 8))
		w.want(fmt.Sprint("cases ", x.from, x.many), x.want)
	}
}

// P16.2: a partner's case is told by its place in the partner's select.
func TestPartnersPlace(t *testing.T) {
	w := begun(t, []code.Case{other(), other(), puts(b, num), gets(a, num)}, choose(1, 3), choose(3, 1), send(a, num))
	ch := w.channel(pipe, 0)
	for fn := range 3 {
		w.add(fn, ch)
	}
	w.want("places", "1[{2 3 -1}] 2[{0 3 -1}] 3[{-1 1 2} {-1 2 0}] [1 2 3]")
}

// P16.2: each case, of each kind of channel, alone.
func TestCaseAlone(t *testing.T) {
	const may, no = "1[{0 0 -1}] [1]", "1[] []"
	for _, x := range []struct {
		where      string
		of         func(w *world, shape int) int64
		puts, gets string
	}{
		{"none", func(w *world, _ int) int64 { return 0 }, no, no},
		{"nowhere", func(w *world, _ int) int64 { return math.MinInt64 }, no, no},
		{"an object", func(w *world, _ int) int64 { return w.object(pair, 3) }, no, no},
		{"an array", func(w *world, _ int) int64 { return w.object(numbers, 9) }, no, no},
		{"room 0", func(w *world, shape int) int64 { return w.channel(shape, 0) }, no, no},
		{"room 0, closed", func(w *world, shape int) int64 { return w.closed(w.channel(shape, 0)) }, may, may},
		{"empty", func(w *world, shape int) int64 { return w.channel(shape, 2) }, may, no},
		{"one of two", func(w *world, shape int) int64 { return w.channel(shape, 2, 0) }, may, may},
		{"full", func(w *world, shape int) int64 { return w.channel(shape, 2, 0, 0) }, no, may},
		{"empty, closed", func(w *world, shape int) int64 { return w.closed(w.channel(shape, 2)) }, may, may},
		{"full, closed", func(w *world, shape int) int64 { return w.closed(w.channel(shape, 2, 0, 0)) }, may, may},
	} {
		for _, shape := range []int{pipe, pipes} {
			val, wrong := num, ref
			if shape == pipes {
				val, wrong = ref, num
			}
			for _, y := range []struct {
				c    code.Case
				want string
			}{
				{puts(a, val), x.puts}, {gets(a, val), x.gets}, {gets(a, none), x.gets}, {puts(a, wrong), no}, {gets(a, wrong), no},
				{puts(a, none), no}, {puts(a, slots), no}, {gets(a, slots), no}, {gets(a, -2), no}, {gets(slots, val), no}, {puts(-1, val), no},
				{code.Case{Kind: 3, Chan: a, Val: val}, no}, {code.Case{Kind: -1, Chan: a, Val: val}, no},
			} {
				w := chooser(t, []code.Case{y.c})
				w.add(0, x.of(w, shape))
				w.want(fmt.Sprintf("%s, shape %d, %v", x.where, shape, y.c), y.want)
			}
		}
	}
}

// P16.2: cases rising, of each its Ways; those that are not ready have none.
func TestCasesRising(t *testing.T) {
	w := chooser(t, []code.Case{gets(b, num), gets(a, num), puts(c, num), gets(a, none), puts(b, num), puts(a, num)}, recv(num, b))
	thing, open, shut := w.channel(pipe, 1, 5), w.channel(pipe, 0), w.closed(w.channel(pipe, 3))
	w.add(0, thing, open, shut)
	w.want("no partner", "1[{1 0 -1} {2 0 -1} {3 0 -1}] [1]")
	w.add(1, 0, open)
	w.add(1, 0, open)
	w.want("two partners", "1[{1 0 -1} {2 0 -1} {3 0 -1} {4 2 -1} {4 3 -1}] 2[{-1 1 4}] 3[{-1 1 4}] [1 2 3]")
}

// P16.2: a default, wherever it stands: only if nothing else may be done.
func TestDefault(t *testing.T) {
	for at := range 3 {
		cases := []code.Case{gets(a, num), puts(b, num)}
		cases = append(cases[:at:at], append([]code.Case{other()}, cases[at:]...)...)
		gets, puts := 0, 1
		if at == 0 {
			gets = 1
		}
		if at <= 1 {
			puts = 2
		}
		w := chooser(t, cases, send(a, num))
		first, second := w.channel(pipe, 0), w.channel(pipe, 1, 7)
		w.add(0, first, second)
		w.want("none ready", fmt.Sprintf("1[{%d 0 -1}] [1]", at))
		w.pop(second)
		w.want("one ready", fmt.Sprintf("1[{%d 0 -1}] [1]", puts))
		w.add(1, first)
		w.want("both ready", fmt.Sprintf("1[{%d 2 -1} {%d 0 -1}] 2[{-1 1 %d}] [1 2]", gets, puts, gets))
		w.push(second, 8)
		w.want("a partner alone", fmt.Sprintf("1[{%d 2 -1}] 2[{-1 1 %d}] [1 2]", gets, gets))
		w.g.Stack(1).Set(a, 0)
		w.g.Stack(1).Set(b, first+1)
		w.want("channels that are none", fmt.Sprintf("1[{%d 0 -1}] 2[] [1]", at))
		w.g.Stack(1).Set(a, w.channel(pipes, 2, 0))
		w.want("a channel of the other kind", fmt.Sprintf("1[{%d 0 -1}] 2[] [1]", at))
		w.closed(first)
		w.g.Stack(1).Set(b, first)
		w.want("a closed one", fmt.Sprintf("1[{%d 0 -1}] 2[{-1 0 -1}] [1 2]", puts))
	}
}

// P16.2: a default alone; a default whose Chan and Val name something; of several the first.
func TestDefaultAlone(t *testing.T) {
	for _, x := range []struct {
		cases []code.Case
		want  string
	}{
		{[]code.Case{other()}, "1[{0 0 -1}] [1]"},
		{[]code.Case{{Kind: 2, Chan: a, Val: num}}, "1[{0 0 -1}] [1]"},
		{[]code.Case{{Kind: 2, Chan: math.MaxInt, Val: math.MinInt, Target: -5}}, "1[{0 0 -1}] [1]"},
		{[]code.Case{{Kind: 3}, other(), other()}, "1[{1 0 -1}] [1]"},
		{[]code.Case{{Kind: 3}, {Kind: 4}, {Kind: -1}}, "1[] []"},
	} {
		w := chooser(t, x.cases)
		w.add(0, w.channel(pipe, 1, 7))
		w.want(fmt.Sprint(x.cases), x.want)
	}
}

// P16.2: two selects with defaults, each the other's partner: neither takes its default.
func TestDefaultsMeet(t *testing.T) {
	w := begun(t, []code.Case{other(), gets(a, num), puts(a, num), other()}, choose(0, 2), choose(2, 2))
	ch := w.channel(pipe, 0)
	w.add(0, ch)
	w.want("one", "1[{0 0 -1}] [1]")
	w.add(1, ch)
	w.want("two", "1[{1 2 0}] 2[{0 1 1}] [1 2]")
	w.add(0, ch)
	w.want("three", "1[{1 2 0}] 2[{0 1 1} {0 3 1}] 3[{1 2 0}] [1 2 3]")
}

// P16.2, the chapter's example.
func TestExample(t *testing.T) {
	w := begun(t, nil, recv(num, a))
	w.add(0, w.channel(pipe, 0))
	w.want("room 0", "1[] []")
	w.g.Stack(1).Set(a, w.channel(pipe, 5))
	w.want("room 5", "1[] []")
}
