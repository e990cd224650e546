package vm_test

import (
	"fmt"
	"slices"
	"testing"

	"gantline/api"
	"gantline/code"
	"gantline/op"
)

// P17.1: send, recv, close of no channel, or of one of other things.
func TestTalkToNone(t *testing.T) {
	makes := map[string]code.Instr{
		"nothing": in(op.Nil, 3), "pair": in(op.New, 3, pair), "nums": in(op.Array, 3, nums, 0), "refs": in(op.Array, 3, refs, 0),
		"closure": in(op.Closure, 3, 1, 0), "pipe": in(op.Chan, 3, pipe, 1), "pipes": in(op.Chan, 3, pipes, 1),
	}
	for name, i := range makes {
		list := []code.Instr{num(1, 1), i}
		isPipe, isPipes := name == "pipe", name == "pipes"
		wantTrap(t, name, list, in(op.Send, 3, 0), isPipe, api.TrapNil)
		wantTrap(t, name, list, in(op.Send, 3, 4), isPipes, api.TrapNil)
		wantTrap(t, name, list, in(op.Close, 3), isPipe || isPipes, api.TrapNil)
		// A recv of an open, empty one would wait: it is closed first, if it is one.
		if isPipe || isPipes {
			list = append(list, in(op.Close, 3))
		}
		wantTrap(t, name, list, in(op.Recv, 0, 3, 1), isPipe, api.TrapNil)
		wantTrap(t, name, list, in(op.Recv, 4, 3, op.None), isPipes, api.TrapNil)
		wantTrap(t, name, list, in(op.Recv, op.None, 3, op.None), isPipe || isPipes, api.TrapNil)
	}
}

// P17.1: send and close of a closed one, whatever room and things it has.
func TestTalkToClosed(t *testing.T) {
	for _, room := range []int64{0, 1, 3} {
		for _, i := range []code.Instr{in(op.Send, 3, 0), in(op.Close, 3)} {
			list := []code.Instr{num(1, room), in(op.Chan, 3, pipe, 1), in(op.Close, 3)}
			wantTrap(t, "closed, empty", list, i, false, api.TrapClosed)
			if room > 0 {
				wantTrap(t, "closed, with a thing", slices.Insert(list, 2, in(op.Send, 3, 0)), i, false, api.TrapClosed)
			}
		}
	}
}

// P17.1: what goes in comes out, in its order; the slots A and C of a recv, and where there is none of these.
func TestRoom(t *testing.T) {
	first := []code.Instr{num(0, 3), in(op.Chan, 3, pipe, 0), num(0, 7), in(op.Send, 3, 0), num(0, 8), in(op.Send, 3, 0), num(0, 9), in(op.Send, 3, 0), num(1, 44), num(2, 45)}
	for _, x := range []struct {
		where string
		list  []code.Instr
		want  string
	}{
		{"A and C", []code.Instr{in(op.Recv, 1, 3, 2), show(1), show(2), in(op.Recv, 1, 3, 2), show(1), in(op.Recv, 1, 3, 2), show(1), show(2)}, "[7 1 8 9 1] 1 0"},
		{"A alone", []code.Instr{in(op.Recv, 1, 3, op.None), show(1), show(2)}, "[7 45] 1 0"},
		{"C alone", []code.Instr{in(op.Recv, op.None, 3, 2), show(1), show(2), in(op.Recv, 1, 3, op.None), show(1)}, "[44 1 8] 1 0"},
		{"neither", []code.Instr{in(op.Recv, op.None, 3, op.None), show(1), show(2), in(op.Recv, 1, 3, op.None), show(1)}, "[44 45 8] 1 0"},
		{"one slot for both", []code.Instr{in(op.Recv, 1, 3, 1), show(1), show(2)}, "[1 45] 1 0"},
		{"closed", []code.Instr{in(op.Close, 3), in(op.Recv, 1, 3, 2), show(1), show(2), in(op.Recv, op.None, 3, op.None), in(op.Recv, 1, 3, 2), show(1), show(2), in(op.Recv, 1, 3, 2), show(1), show(2)}, "[7 1 9 1 0 0] 1 0"},
		{"round and round", []code.Instr{in(op.Recv, 1, 3, op.None), in(op.Recv, 1, 3, op.None), num(0, 5), in(op.Send, 3, 0), num(0, 6), in(op.Send, 3, 0), in(op.Recv, 1, 3, op.None), show(1), in(op.Recv, 1, 3, op.None), show(1), in(op.Recv, 1, 3, op.None), show(1)}, "[9 5 6] 1 0"},
		{"full", []code.Instr{in(op.Send, 3, 0)}, "[] 3 0"},
		{"empty", []code.Instr{in(op.Recv, 1, 3, 1), in(op.Recv, 1, 3, 1), in(op.Recv, 1, 3, 1), in(op.Recv, 1, 3, 1)}, "[] 3 0"},
	} {
		begun(t, begins("nnna", append(slices.Clone(first), x.list...)...)).wantRun(x.where, x.want)
	}
}

// P17.1: a closed, empty channel of addresses gives nothing.
func TestClosedAddresses(t *testing.T) {
	w := begun(t, begins("nnaaa", num(0, 1), in(op.Chan, 2, pipes, 0), in(op.New, 3, pair), in(op.Send, 2, 3), in(op.Close, 2),
		in(op.Recv, 4, 2, 0), show(0), in(op.Same, 1, 3, 4), show(1), in(op.Recv, 4, 2, 0), show(0), in(op.Nil, 3), in(op.Same, 1, 3, 4), show(1)))
	w.wantRun("closed", "[1 1 0 1] 1 0")
}

// side is one who sends or receives without room, by an instruction of its own or by a case of a select; both go on at a print of what they hold.
type side struct {
	name string
	f    func(cases *[]code.Case) code.Func
	way  int // its case, in the partner's eyes
}

// wordKinds are those of a side's function: the channel, a number that was handed to it, an address likewise, two numbers more.
const wordKinds = "ananna"

// instruct is a side whose instruction is this one.
func instruct(name string, i code.Instr) side {
	return side{name, func(*[]code.Case) code.Func {
		return fn(3, 0, 0, wordKinds, i, show(1), show(3), show(4), in(op.Store, globalRef, 2), in(op.Store, globalRef, 5), end())
	}, -1}
}

// selects is a side that is a select with this case ahead of a default, or behind one of no channel; on behind its next instruction.
func selects(name string, c code.Case, place int) side {
	return side{name, func(cases *[]code.Case) code.Func {
		at := len(*cases)
		c.Target = 2
		for range place {
			*cases = append(*cases, gets(5, 3, 1))
		}
		*cases = append(*cases, c)
		return fn(3, 0, 0, wordKinds, choose(at, place+1), in(op.Trap, 1), show(1), show(3), show(4), in(op.Store, globalRef, 2), in(op.Store, globalRef, 5), end())
	}, place}
}

// meeting is a machine of Main, which begins both sides with a channel of its own, 1 at the sender, 2 at the receiver.
func meeting(t *testing.T, shape int, from, to side) world {
	t.Helper()
	var cases []code.Case
	sender, receiver := from.f(&cases), to.f(&cases)
	list := []code.Instr{num(1, 0), in(op.Chan, 0, shape, 1), num(1, 11), in(op.New, 2, pair), in(op.Go, 1, 0), num(1, 22), in(op.Nil, 2), in(op.Go, 2, 0), poll(), jump(8)}
	main := fn(0, 0, 0, "ana", list...)
	w := begunBy(t, cases, main, sender, receiver)
	w.times(1, 5)
	w.wantEnabled("the sender alone", 1)
	w.times(1, 3)
	return w
}

// P17.1: with a partner both go on, whoever is picked: what the sender's slot holds is in the receiver's; 1 in its slot C, of a recv. It is one Act.
func TestMeet(t *testing.T) {
	senders := []side{instruct("send", in(op.Send, 0, 1)), selects("a sending case", puts(0, 1, 0), 0), selects("a second sending case", puts(0, 1, 0), 1)}
	for _, from := range senders {
		for _, x := range []struct {
			side
			want string
		}{
			{instruct("recv", in(op.Recv, 3, 0, 4)), "[22 11 1]"},
			{instruct("recv to A", in(op.Recv, 1, 0, op.None)), "[11 0 0]"},
			{instruct("recv to C", in(op.Recv, op.None, 0, 4)), "[22 0 1]"},
			{instruct("recv to none", in(op.Recv, op.None, 0, op.None)), "[22 0 0]"},
			{instruct("recv to one for both", in(op.Recv, 3, 0, 3)), "[22 1 0]"},
			{selects("a receiving case", gets(0, 3, 0), 0), "[22 11 0]"},
			{selects("a third receiving case", gets(0, 4, 0), 2), "[22 0 11]"},
			{selects("a case to none", gets(0, op.None, 0), 1), "[22 0 0]"},
		} {
			for _, picked := range []int{2, 3} {
				where := fmt.Sprintf("%s, %s, %d is picked", from.name, x.name, picked)
				w := meeting(t, pipe, from, x.side)
				w.wantEnabled(where, 1, 2, 3)
				acts := len(w.Acts())
				w.do(picked)
				want := fmt.Sprintf("[{2 %d 1 0 {%d 3 %d}}]", opOf(from), from.way, x.way)
				if picked == 3 {
					want = fmt.Sprintf("[{3 %d 2 0 {%d 2 %d}}]", opOf(x.side), x.way, from.way)
				}
				w.wantActs(where, acts, want)
				w.do(3, 3, 3)
				w.want(where, x.want+" 0 0")
				w.do(2, 2, 2)
				w.want(where+", the sender", x.want[:len(x.want)-1]+" 11 0 0] 0 0")
			}
		}
	}
}

// opOf is the Op by which a side stands there.
func opOf(s side) int { return s.f(&[]code.Case{}).Code[0].Op }

// P17.1: an address that goes from hand to hand is Shaded in roots and mark, whoever is picked, and is what the receiver holds.
func TestMeetShades(t *testing.T) {
	for _, from := range []side{instruct("send", in(op.Send, 0, 2)), selects("a sending case", puts(0, 2, 0), 0)} {
		for _, to := range []side{instruct("recv", in(op.Recv, 5, 0, op.None)), selects("a receiving case", gets(0, 5, 0), 0)} {
			for _, picked := range []int{2, 3} {
				for phase := off; phase <= roots; phase++ {
					where := fmt.Sprintf("%s, %s, %d is picked, phase %d", from.name, to.name, picked, phase)
					w := meeting(t, pipes, from, to)
					object := w.Stack(2)[1]
					w.to(phase)
					w.wantMarked(where, false, object)
					w.do(picked)
					w.wantMarked(where, phase == roots, object)
					w.do(3, 3, 3, 3, 3)
					if got := w.Globals(); !slices.Equal(got, []int64{object}) {
						t.Errorf("%s: %v came, want %v", where, got, object)
					}
				}
			}
		}
	}
}

// P17.1: likewise where the sender's stack is black, and holds what was not looked at: in roots and in mark.
func TestMeetShadesOfBlack(t *testing.T) {
	for _, m := range moments()[2:4] {
		for _, picked := range []int{1, 2} {
			w := begun(t,
				begins("naaa", in(op.New, 1, pair), in(op.New, 2, pair), in(op.Set, 2, 1, 1), in(op.Chan, 3, pipes, 0), in(op.Go, 1, 3), in(op.Nil, 1), in(op.Get, 1, 2, 1), in(op.Send, 3, 1), in(op.Same, 0, 1, 2), in(op.Same, 0, 3, 2)),
				fn(1, 0, 0, "aa", in(op.Recv, 1, 0, op.None), in(op.Store, globalRef, 1), end()))
			w.times(1, 6)
			object := w.held(w.Stack(1)[0], 1)
			w.at(m)
			w.do(1)
			w.wantMarked(m.name, false, object)
			w.do(picked)
			w.wantMarked(m.name+", sent", true, object)
		}
	}
}

// P17.1: a number that goes from hand to hand is not Shaded, though it looks like an address.
func TestMeetOfNumbers(t *testing.T) {
	w := begun(t,
		begins("naa", in(op.New, 1, pair), in(op.Chan, 2, pipe, 0), in(op.Go, 1, 2), num(0, 64), in(op.Send, 2, 0), in(op.Get, 0, 1, 0)),
		fn(1, 0, 0, "an", in(op.Recv, 1, 0, op.None), show(1), end()))
	w.times(1, 4)
	w.to(roots)
	w.do(2)
	w.wantMarked("a number", false, 64)
	w.do(2)
	w.want("it came", "[64] 0 0")
}

// chooser is a machine at a select of these cases, with channels 2 (of numbers), 3 (of addresses), of that room, with a thing in each, if it is so; each case goes on at a print of its place.
func chooser(t *testing.T, room int64, full bool, cases ...code.Case) world {
	t.Helper()
	list := []code.Instr{num(0, room), in(op.Chan, 2, pipe, 0), in(op.Chan, 3, pipes, 0), in(op.New, 4, pair)}
	if full {
		list = append(list, num(0, 55), in(op.Send, 2, 0), in(op.Send, 3, 4))
	}
	list = append(list, num(0, 66), choose(0, len(cases)))
	before := len(list)
	for n := range cases {
		cases[n].Target = len(list)
		list = append(list, num(0, int64(n)), show(0), show(1), in(op.Store, globalRef, 5), end())
	}
	f := fn(0, 0, 0, "nnaaaa", list...)
	w := begunBy(t, cases, f)
	w.times(1, before-1)
	return w
}

// P17.1: a select by each of its cases, on at the Target: what is received, what is sent.
func TestSelectEach(t *testing.T) {
	cases := []code.Case{gets(2, 1, 0), puts(2, 0, 0), gets(3, 5, 0), puts(3, 4, 0), gets(2, op.None, 0), other(0), gets(5, 1, 0)}
	for way, want := range []string{"[0 55]", "[1 0]", "[2 0]", "[3 0]", "[4 0]"} {
		w := chooser(t, 2, true, slices.Clone(cases)...)
		if got := w.Ways(1); got != 5 {
			t.Fatalf("%d Ways", got)
		}
		acts, live := len(w.Acts()), len(w.Live())
		if !w.Do(1, way) {
			t.Fatalf("the way %d is refused", way)
		}
		w.wantActs("a select", acts, fmt.Sprintf("[{1 41 0 8 {%d 0 -1}}]", way))
		w.do(1, 1, 1)
		w.want("a select", want+" 0 0")
		if way == 2 && (len(w.Stack(1)) != 1 || live < 2) {
			t.Errorf("no address came")
		}
	}
}

// P17.1: what a sending case sends is in the channel; what a receiving case receives is there no more.
func TestSelectMoves(t *testing.T) {
	for _, x := range []struct {
		c    code.Case
		want string
	}{{puts(2, 0, 6), "[66] 3 0"}, {gets(2, 1, 6), "[] 3 0"}, {gets(2, op.None, 6), "[] 3 0"}} {
		list := []code.Instr{num(0, 2), in(op.Chan, 2, pipe, 0), num(0, 5), in(op.Send, 2, 0), num(0, 66), choose(0, 1), in(op.Recv, 0, 2, op.None), in(op.Recv, 0, 2, op.None), show(0), in(op.Recv, 0, 2, op.None)}
		w := begunBy(t, []code.Case{x.c}, begins("nna", list...))
		w.wantRun(fmt.Sprint(x.c), x.want)
	}
}

// P17.1: a default, just where nothing else may be done.
func TestSelectDefault(t *testing.T) {
	for _, x := range []struct {
		where string
		room  int64
		full  bool
		cases []code.Case
		want  string
	}{
		{"empty", 2, false, []code.Case{gets(2, 1, 0), other(0), gets(3, 5, 0)}, "[1 0] 1 0"},
		{"full", 1, true, []code.Case{puts(2, 1, 0), puts(3, 4, 0), other(0)}, "[2 0] 1 0"},
		{"no channel", 1, false, []code.Case{other(0), gets(5, 1, 0), puts(5, 1, 0), gets(4, 1, 0)}, "[0 0] 1 0"},
		{"of other things", 2, true, []code.Case{gets(3, 1, 0), gets(2, 5, 0), puts(3, 1, 0), puts(2, 5, 0), other(0)}, "[4 0] 1 0"},
		{"no room, nobody there", 0, false, []code.Case{gets(2, 1, 0), puts(2, 1, 0), other(0)}, "[2 0] 1 0"},
		{"nothing but it", 0, false, []code.Case{other(0)}, "[0 0] 1 0"},
		{"a thing", 1, true, []code.Case{other(0), gets(2, 1, 0)}, "[1 55] 1 0"},
		{"room", 1, false, []code.Case{other(0), puts(2, 1, 0)}, "[1 0] 1 0"},
	} {
		w := chooser(t, x.room, x.full, x.cases...)
		if w.Ways(1) != 1 {
			t.Errorf("%s: %d Ways", x.where, w.Ways(1))
		}
		w.wantRun(x.where, x.want)
	}
}

// P17.1: a case of a closed channel: a receiving one gets what is left, then 0; a sending one falls.
func TestSelectClosed(t *testing.T) {
	for _, x := range []struct {
		where string
		c     code.Case
		full  bool
		want  string
	}{
		{"what is left", gets(2, 1, 6), true, "[7] 1 0"}, {"nothing left", gets(2, 1, 6), false, "[0] 1 0"},
		{"to none", gets(2, op.None, 6), true, "[44] 1 0"}, {"a send", puts(2, 0, 6), false, "[] 2 4"}, {"a send, one in it", puts(2, 0, 6), true, "[] 2 4"},
	} {
		list := []code.Instr{num(0, 2), in(op.Chan, 2, pipe, 0), num(0, 7), poll(), in(op.Close, 2), choose(0, 1), show(1)}
		if x.full {
			list[3] = in(op.Send, 2, 0)
		}
		list = slices.Insert(list, 0, num(1, 44))
		x.c.Target = 7
		w := begunBy(t, []code.Case{x.c}, begins("nna", list...))
		w.wantRun(x.where, x.want)
	}
}

// P17.1: selects that could meet themselves do not; two of the same function meet each other.
func TestSelectMeetsAnother(t *testing.T) {
	cases := []code.Case{gets(0, 2, 1), puts(0, 1, 4)}
	w := begunBy(t, cases,
		begins("ann", in(op.Chan, 0, pipe, 1), in(op.Go, 1, 0), num(1, 5), in(op.Go, 1, 0), poll(), jump(4)),
		fn(2, 0, 0, "ann", choose(0, 2), show(2), jump(4), poll(), show(1), end()))
	w.do(1, 1)
	w.wantEnabled("alone", 1)
	w.do(1, 1)
	if w.Ways(2) != 2 || w.Ways(3) != 2 {
		t.Fatalf("Ways: %d, %d", w.Ways(2), w.Ways(3))
	}
	acts := len(w.Acts())
	w.Do(2, 0)
	w.wantActs("2 receives", acts, "[{2 41 1 0 {0 3 1}}]")
	w.do(3, 2)
	w.want("both", "[5 5] 0 0")
}
