package sched_test

import (
	"fmt"
	"testing"

	"gantline/code"
)

// P16.2: a channel without room: a send and a recv are partners, and others are none.
func TestPartners(t *testing.T) {
	const sends, gets, loses, polls = 0, 1, 2, 3
	for _, x := range []struct {
		who  []int
		want string
	}{
		{[]int{sends}, "1[] []"},
		{[]int{gets}, "1[] []"},
		{[]int{sends, sends}, "1[] 2[] []"},
		{[]int{gets, gets, loses}, "1[] 2[] 3[] []"},
		{[]int{sends, gets}, "1[{-1 2 -1}] 2[{-1 1 -1}] [1 2]"},
		{[]int{gets, sends}, "1[{-1 2 -1}] 2[{-1 1 -1}] [1 2]"},
		{[]int{sends, loses}, "1[{-1 2 -1}] 2[{-1 1 -1}] [1 2]"},
		{[]int{sends, polls}, "1[] 2[{-1 0 -1}] [2]"},
		{[]int{sends, gets, loses, gets}, "1[{-1 2 -1} {-1 3 -1} {-1 4 -1}] 2[{-1 1 -1}] 3[{-1 1 -1}] 4[{-1 1 -1}] [1 2 3 4]"},
		{[]int{sends, gets, sends, sends}, "1[{-1 2 -1}] 2[{-1 1 -1} {-1 3 -1} {-1 4 -1}] 3[{-1 2 -1}] 4[{-1 2 -1}] [1 2 3 4]"},
		{[]int{polls, loses, polls, sends, polls, gets}, "1[{-1 0 -1}] 2[{-1 4 -1}] 3[{-1 0 -1}] 4[{-1 2 -1} {-1 6 -1}] 5[{-1 0 -1}] 6[{-1 4 -1}] [1 2 3 4 5 6]"},
	} {
		for shape, val := range map[int]int{pipe: num, pipes: ref} {
			w := begun(t, nil, send(a, val), recv(val, a), recv(none, a), poll())
			ch := w.channel(shape, 0)
			for _, fn := range x.who {
				w.add(fn, ch)
			}
			w.want(fmt.Sprintf("%v of shape %d", x.who, shape), x.want)
		}
	}
}

// P16.2: the channel may stand in any slot, in each another one.
func TestPartnersSlots(t *testing.T) {
	w := begun(t, nil, send(b, num), recv(num, c), recv(num, a))
	ch := w.channel(pipe, 0)
	w.add(0, 0, ch, 0)
	w.add(1, 0, 0, ch)
	w.add(2, ch, 0, 0)
	w.want("slots", "1[{-1 2 -1} {-1 3 -1}] 2[{-1 1 -1}] 3[{-1 1 -1}] [1 2 3]")
}

// P16.2: who is at another channel, or has left this one's instruction, is no partner.
func TestNoPartners(t *testing.T) {
	w := begun(t, nil, send(a, num), recv(num, a))
	ch, more := w.channel(pipe, 0), w.channel(pipe, 0)
	w.add(0, ch)
	w.add(1, more)
	w.add(1, ch)
	w.want("of another channel", "1[{-1 3 -1}] 2[] 3[{-1 1 -1}] [1 3]")
	w.g.Stack(3).Jump(1)
	w.want("at another instruction", "1[] 2[] 3[{-1 0 -1}] [3]")
	w.g.Stack(3).Jump(2)
	w.want("at no instruction", "1[] 2[] 3[] []")
	w.g.Stack(3).Jump(0)
	w.g.Stack(3).Call(w.m, 0, make([]int64, 3))
	w.want("a call upon it", "1[] 2[] 3[{-1 0 -1}] [3]")
	w.g.Stack(3).Return()
	w.want("the call returned", "1[{-1 3 -1}] 2[] 3[{-1 1 -1}] [1 3]")
	w.g.Stack(3).Return()
	w.want("all returned", "1[] 2[] 3[] []")
	w.g.Stack(2).Set(a, ch)
	w.want("another one at this channel", "1[{-1 2 -1}] 2[{-1 1 -1}] 3[] [1 2]")
	w.g.Drop(2)
	w.want("it is no more", "1[] 3[] []")
}

// P16.2: one for whom the channel is none, as its slot is of the other kind, is no partner: it falls.
func TestNoneForIt(t *testing.T) {
	w := begun(t, nil, send(a, num), recv(num, a), recv(ref, a), recv(none, a), send(a, ref))
	numbers, addresses := w.channel(pipe, 0), w.channel(pipes, 0)
	for fn := range 5 {
		w.add(fn, numbers)
	}
	w.want("numbers", "1[{-1 2 -1} {-1 4 -1}] 2[{-1 1 -1}] 3[{-1 0 -1}] 4[{-1 1 -1}] 5[{-1 0 -1}] [1 2 3 4 5]")
	for id := 1; id <= 5; id++ {
		w.g.Stack(id).Set(a, addresses)
	}
	w.want("addresses", "1[{-1 0 -1}] 2[{-1 0 -1}] 3[{-1 5 -1}] 4[{-1 5 -1}] 5[{-1 3 -1} {-1 4 -1}] [1 2 3 4 5]")
}

// P16.2: two who name the same address, at which there is no channel, both fall; neither is a partner.
func TestNoChannelNoPartner(t *testing.T) {
	w := begun(t, []code.Case{gets(a, num)}, send(a, num), recv(num, a), choose(0, 1))
	for _, addr := range append(nowhere(), w.object(pair, 3), w.object(numbers, 3)) {
		w = begunOf(t, w.m)
		w.object(pair, 3)
		for fn := range 3 {
			w.add(fn, addr)
		}
		w.want(fmt.Sprintf("of %d", addr), "1[{-1 0 -1}] 2[{-1 0 -1}] 3[] [1 2]")
	}
}

// P16.2: with room there are no partners, though somebody waits across.
func TestRoomNoPartners(t *testing.T) {
	for _, x := range []struct {
		room   int64
		things int
		want   string
	}{
		{1, 0, "1[{-1 0 -1}] 2[] 3[] 4[{1 0 -1}] [1 4]"},
		{1, 1, "1[] 2[{-1 0 -1}] 3[{-1 0 -1}] 4[{0 0 -1}] [2 3 4]"},
		{2, 1, "1[{-1 0 -1}] 2[{-1 0 -1}] 3[{-1 0 -1}] 4[{0 0 -1} {1 0 -1}] [1 2 3 4]"},
		{59, 59, "1[] 2[{-1 0 -1}] 3[{-1 0 -1}] 4[{0 0 -1}] [2 3 4]"},
	} {
		w := begun(t, []code.Case{gets(a, num), puts(a, num)}, send(a, num), recv(num, a), recv(none, a), choose(0, 2))
		ch := w.channel(pipe, x.room, make([]int64, x.things)...)
		for fn := range 4 {
			w.add(fn, ch)
		}
		w.want(fmt.Sprintf("room %d, %d things", x.room, x.things), x.want)
	}
}

// P16.2: a closed one has no partners either: each has one Way.
func TestClosedNoPartners(t *testing.T) {
	w := begun(t, []code.Case{gets(a, num), puts(a, num)}, send(a, num), recv(num, a), choose(0, 2))
	ch := w.channel(pipe, 0)
	for fn := range 3 {
		w.add(fn, ch)
	}
	w.want("open", "1[{-1 2 -1} {-1 3 0}] 2[{-1 1 -1} {-1 3 1}] 3[{0 1 -1} {1 2 -1}] [1 2 3]")
	w.closed(ch)
	w.want("closed", "1[{-1 0 -1}] 2[{-1 0 -1}] 3[{0 0 -1} {1 0 -1}] [1 2 3]")
}

// P16.2: partners at a select: with one case that fits, with several, each told, rising.
func TestPartnersAtSelect(t *testing.T) {
	cases := []code.Case{
		puts(a, num), gets(a, num), // 0, 2
		gets(a, num), gets(b, num), other(), gets(a, none), puts(a, num), gets(a, num), // 2, 6
	}
	w := begun(t, cases, send(a, num), recv(num, a), choose(0, 2), choose(2, 6))
	ch, more := w.channel(pipe, 0), w.channel(pipe, 0)
	w.add(0, ch)
	w.add(2, ch)
	w.add(3, ch, more)
	w.add(1, ch)
	w.want("selects", "1[{-1 2 1} {-1 3 0} {-1 3 3} {-1 3 5} {-1 4 -1}] "+
		"2[{0 3 0} {0 3 3} {0 3 5} {0 4 -1} {1 1 -1} {1 3 4}] "+
		"3[{0 1 -1} {0 2 0} {3 1 -1} {3 2 0} {4 2 1} {4 4 -1} {5 1 -1} {5 2 0}] "+
		"4[{-1 1 -1} {-1 2 0} {-1 3 4}] [1 2 3 4]")
}

// P16.2: a select whose cases are of another channel, or for whose slot the channel is none, is no partner.
func TestNoPartnersAtSelect(t *testing.T) {
	for _, x := range []struct {
		where string
		cases []code.Case
		want  string
	}{
		{"another channel", []code.Case{gets(b, num), gets(c, num)}, "1[] 2[] []"},
		{"it sends, too", []code.Case{puts(a, num)}, "1[] 2[] []"},
		{"an address' slot", []code.Case{gets(a, ref)}, "1[] 2[] []"},
		{"an address' slot, then a number's", []code.Case{gets(a, ref), gets(a, num)}, "1[{-1 2 1}] 2[{1 1 -1}] [1 2]"},
		{"no slot", []code.Case{gets(a, none)}, "1[{-1 2 0}] 2[{0 1 -1}] [1 2]"},
		{"a default of that channel", []code.Case{{Kind: 2, Chan: a, Val: num}}, "1[] 2[{0 0 -1}] [2]"},
		{"a case of no Kind", []code.Case{{Kind: 3, Chan: a, Val: num}, {Kind: -1, Chan: a, Val: num}}, "1[] 2[] []"},
		{"a slot that is not there", []code.Case{gets(a, slots), gets(a, -2)}, "1[] 2[] []"},
	} {
		w := begun(t, x.cases, send(a, num), choose(0, len(x.cases)))
		ch := w.channel(pipe, 0)
		w.add(0, ch)
		w.add(1, ch, w.channel(pipe, 0))
		w.want(x.where, x.want)
	}
}

// P16.2: a select that has other Ways, or a default, is a partner all the same.
func TestPartnerWithOtherWays(t *testing.T) {
	w := begun(t, []code.Case{other(), gets(b, num), gets(a, num)}, send(a, num), choose(0, 3))
	ch := w.channel(pipe, 0)
	w.add(0, ch)
	w.add(1, ch, w.channel(pipe, 1, 7))
	w.want("ready elsewhere", "1[{-1 2 2}] 2[{1 0 -1} {2 1 -1}] [1 2]")
}

// P16.2: a goroutine is no partner of its own.
func TestNotItsOwn(t *testing.T) {
	both := []code.Case{puts(a, num), gets(a, num), puts(b, num), gets(b, none)}
	w := begun(t, both, choose(0, 4))
	ch := w.channel(pipe, 0)
	w.add(0, ch, ch)
	w.want("alone", "1[] []")
	w.add(0, ch, ch)
	w.want("two of them", "1[{0 2 1} {0 2 3} {1 2 0} {1 2 2} {2 2 1} {2 2 3} {3 2 0} {3 2 2}] "+
		"2[{0 1 1} {0 1 3} {1 1 0} {1 1 2} {2 1 1} {2 1 3} {3 1 0} {3 1 2}] [1 2]")
	w.g.Drop(1)
	w.want("alone again", "2[] []")
}

// P16.2: partners rising by number, also behind Drops.
func TestPartnersRising(t *testing.T) {
	w := begun(t, []code.Case{gets(a, num)}, send(a, num), recv(num, a), choose(0, 1))
	ch := w.channel(pipe, 0)
	for _, fn := range []int{1, 2, 1, 0, 2, 1} {
		w.add(fn, ch)
	}
	of := func(ways, ids string) string { return ways + " " + ids }
	w.want("all", of("1[{-1 4 -1}] 2[{0 4 -1}] 3[{-1 4 -1}] 4[{-1 1 -1} {-1 2 0} {-1 3 -1} {-1 5 0} {-1 6 -1}] 5[{0 4 -1}] 6[{-1 4 -1}]", "[1 2 3 4 5 6]"))
	w.g.Drop(2)
	w.g.Drop(1)
	w.add(1, ch)
	w.add(2, ch)
	w.want("behind Drops", of("3[{-1 4 -1}] 4[{-1 3 -1} {-1 5 0} {-1 6 -1} {-1 7 -1} {-1 8 0}] 5[{0 4 -1}] 6[{-1 4 -1}] 7[{-1 4 -1}] 8[{0 4 -1}]", "[3 4 5 6 7 8]"))
	w.g.Drop(4)
	w.want("nobody sends", of("3[] 5[] 6[] 7[] 8[]", "[]"))
	w.add(0, ch)
	w.want("one sends", of("3[{-1 9 -1}] 5[{0 9 -1}] 6[{-1 9 -1}] 7[{-1 9 -1}] 8[{0 9 -1}] 9[{-1 3 -1} {-1 5 0} {-1 6 -1} {-1 7 -1} {-1 8 0}]", "[3 5 6 7 8 9]"))
}

// P16.2: partners far down, all MaxGos of them.
func TestPartnersMany(t *testing.T) {
	w := begun(t, nil, send(a, num), recv(num, a))
	ch := w.channel(pipe, 0)
	for range 63 {
		w.add(1, ch)
	}
	if got := w.g.Enabled(w.h); len(got) != 0 {
		t.Errorf("Enabled: %v", got)
	}
	w.add(0, ch)
	ways := w.g.Ways(w.h, 64)
	if len(ways) != 63 || len(w.g.Enabled(w.h)) != 64 {
		t.Fatalf("%d Ways", len(ways))
	}
	for n, x := range ways {
		if x.Case != -1 || x.Partner != n+1 || x.PartnerCase != -1 {
			t.Errorf("Way %d: %v", n, x)
		}
	}
}
