package sched_test

import (
	"fmt"
	"math"
	"testing"

	"gantline/code"
)

const (
	once  = "1[{-1 0 -1}] [1]" // one Way, without a partner
	waits = "1[] []"
)

// P16.2: of an instruction that is no send, recv, select: one Way.
func TestOthersMay(t *testing.T) {
	ops := []int{-1, -38, 45, 46, 38 + 64, 39 + 256, 1<<32 + 41, math.MaxInt, math.MinInt}
	for n := range 45 {
		ops = append(ops, n)
	}
	for _, n := range ops {
		if n == 38 || n == 39 || n == 41 {
			continue
		}
		w := begun(t, []code.Case{gets(a, num)}, code.Instr{Op: n, A: 0, B: 1, C: none})
		w.add(0, w.channel(pipe, 0))
		w.want(fmt.Sprintf("Op %d", n), once)
	}
}

// P16.2: nothing, if there is no such goroutine.
func TestNobody(t *testing.T) {
	w := begun(t, nil, poll())
	w.add(0)
	w.add(0)
	w.g.Drop(1)
	for _, id := range append(beyond(), 0, 1, 3, 64) {
		if got := w.g.Ways(w.h, id); len(got) != 0 {
			t.Errorf("Ways of %d: %v", id, got)
		}
	}
	w.want("who is there", "2[{-1 0 -1}] [2]")
}

// P16.2: nothing, if there is no instruction.
func TestNoInstruction(t *testing.T) {
	w := begun(t, nil, poll())
	w.add(0)
	for _, pc := range append(beyond(), 2, 3) {
		w.g.Stack(1).Jump(pc)
		w.want(fmt.Sprintf("at %d", pc), waits)
	}
	w.g.Stack(1).Jump(1)
	w.want("at the last one", once)
	w.g.Stack(1).Return()
	w.want("all calls returned", waits)
	empty := begunOf(t, code.Module{Funcs: []code.Func{{}}})
	empty.g.Add(0, nil)
	empty.want("no code", waits)
}

// P16.2: a call of a function that the table's module has not, or has otherwise, is asked of the table's module.
func TestAnotherModulesCall(t *testing.T) {
	w := begun(t, nil, send(a, num))
	w.add(0, w.channel(pipe, 0))
	w.want("a send", waits)
	wider := code.Module{Funcs: []code.Func{{Code: []code.Instr{poll()}}, standing(poll())}}
	w.g.Stack(1).Call(wider, 1, make([]int64, 3))
	w.want("no such function", waits)
	w.g.Stack(1).Return()
	w.g.Stack(1).Call(wider, 0, nil)
	w.want("a send from a slot that is not there", once)
}

// P16.2: what is no channel: a send and a recv of it fall.
func TestNoChannel(t *testing.T) {
	for n, i := range []code.Instr{send(a, num), send(a, ref), recv(num, a), recv(ref, a), recv(none, a)} {
		w := begun(t, nil, i)
		w.add(0)
		addrs := append(nowhere(), w.object(pair, 3), w.object(numbers, 3), w.object(caught, 2), w.object(pair, 6), w.channel(pipe, 0)+1, w.channel(pipes, 2)+6)
		for _, addr := range addrs {
			w.g.Stack(1).Set(a, addr)
			w.want(fmt.Sprintf("instruction %d of %d", n, addr), once)
		}
	}
}

// P16.2: a channel's slot that is not there holds nothing.
func TestNoChannelSlot(t *testing.T) {
	for _, slot := range append(beyond(), slots, slots+1) {
		for n, i := range []code.Instr{send(slot, num), recv(num, slot), recv(none, slot)} {
			w := begun(t, nil, i)
			w.add(0, w.channel(pipe, 0), w.channel(pipe, 0), w.channel(pipe, 0))
			w.want(fmt.Sprintf("instruction %d of slot %d", n, slot), once)
		}
	}
}

// P16.2: of the other kind of elements it is none, whatever is in it.
func TestOtherElements(t *testing.T) {
	for _, x := range []struct {
		i     code.Instr
		shape int
		want  string
	}{
		{send(a, num), pipe, waits}, {send(a, num), pipes, once}, {send(a, ref), pipe, once}, {send(a, ref), pipes, waits},
		{recv(num, a), pipe, waits}, {recv(num, a), pipes, once}, {recv(ref, a), pipe, once}, {recv(ref, a), pipes, waits},
		{recv(none, a), pipe, waits}, {recv(none, a), pipes, waits},
	} {
		w := begun(t, nil, x.i)
		w.add(0, w.channel(x.shape, 0))
		w.want(fmt.Sprintf("%v of shape %d", x.i, x.shape), x.want)
		if x.i.Op == 38 {
			w.g.Stack(1).Set(a, w.channel(x.shape, 2, 0, 0))
		} else {
			w.g.Stack(1).Set(a, w.channel(x.shape, 2))
		}
		w.want(fmt.Sprintf("%v of shape %d with room", x.i, x.shape), x.want)
	}
}

// P16.2: a slot that there is not has no kind: no channel is one for it. Of a recv, -1 alone is no slot; of a send it is none of the function's.
func TestNoSlot(t *testing.T) {
	for _, slot := range append(beyond(), slots, slots+1) {
		for _, shape := range []int{pipe, pipes} {
			w := begun(t, nil, send(a, slot), recv(slot, a))
			ch := w.channel(shape, 0)
			w.add(0, ch)
			w.add(1, ch)
			want := "1[{-1 0 -1}] 2[{-1 0 -1}] [1 2]"
			if slot == none {
				want = "1[{-1 0 -1}] 2[] [1]"
			}
			w.want(fmt.Sprintf("slot %d, shape %d", slot, shape), want)
		}
	}
}

// P16.2: the kinds are those of the function that is on top.
func TestKindsOfTop(t *testing.T) {
	w := begun(t, nil, send(a, num), send(a, num))
	w.m.Funcs[1].Kinds[num] = true
	w = begunOf(t, w.m)
	numbers, addresses := w.channel(pipe, 0), w.channel(pipes, 0)
	w.add(0, numbers)
	s := w.g.Stack(1)
	w.want("numbers of a number", waits)
	s.Call(w.m, 1, []int64{numbers, 0, 0})
	w.want("numbers of an address", once)
	s.Set(a, addresses)
	w.want("addresses of an address", waits)
	s.Return()
	w.want("numbers of a number again", waits)
	s.Set(a, addresses)
	w.want("addresses of a number", once)
}

// P16.2: one channel, alone: what may be sent to it, and what received.
func TestAlone(t *testing.T) {
	for _, x := range []struct {
		where      string
		room       int64
		things     int
		closed     bool
		send, recv string
	}{
		{"room 0", 0, 0, false, waits, waits},
		{"room 0, closed", 0, 0, true, once, once},
		{"room 1", 1, 0, false, once, waits},
		{"room 1, full", 1, 1, false, waits, once},
		{"room 1, closed", 1, 0, true, once, once},
		{"room 1, full, closed", 1, 1, true, once, once},
		{"room 3, empty", 3, 0, false, once, waits},
		{"room 3, one", 3, 1, false, once, once},
		{"room 3, two", 3, 2, false, once, once},
		{"room 3, full", 3, 3, false, waits, once},
		{"room 3, two, closed", 3, 2, true, once, once},
		{"room 59, empty", 59, 0, false, once, waits},
		{"room 59, all but one", 59, 58, false, once, once},
		{"room 59, full", 59, 59, false, waits, once},
	} {
		for _, shape := range []int{pipe, pipes} {
			val := map[int]int{pipe: num, pipes: ref}[shape]
			for _, y := range []struct {
				i    code.Instr
				want string
			}{{send(a, val), x.send}, {recv(val, a), x.recv}, {recv(none, a), x.recv}} {
				w := begun(t, nil, y.i)
				ch := w.channel(shape, x.room, make([]int64, x.things)...)
				if x.closed {
					w.closed(ch)
				}
				w.add(0, ch)
				w.want(fmt.Sprintf("%s, shape %d, %v", x.where, shape, y.i), y.want)
			}
		}
	}
}

// P16.2: a recv's slot C does not matter.
func TestRecvAndWhether(t *testing.T) {
	for _, slot := range append(beyond(), num, ref, slots) {
		i := recv(num, a)
		i.C, i.D = slot, slot
		w := begun(t, nil, i)
		w.add(0, w.channel(pipe, 0))
		w.want("empty", waits)
		w.g.Stack(1).Set(a, w.channel(pipe, 1, 4))
		w.want("with a thing", once)
	}
}

// P16.2: what the channel becomes is seen.
func TestChannelIsSeen(t *testing.T) {
	w := begun(t, nil, send(a, num), recv(num, a))
	ch := w.channel(pipe, 1)
	w.add(0, ch)
	w.add(1, ch)
	w.want("empty", "1[{-1 0 -1}] 2[] [1]")
	w.push(ch, 5)
	w.want("full", "1[] 2[{-1 0 -1}] [2]")
	w.pop(ch)
	w.want("empty again", "1[{-1 0 -1}] 2[] [1]")
	w.closed(ch)
	w.want("closed", "1[{-1 0 -1}] 2[{-1 0 -1}] [1 2]")
}
