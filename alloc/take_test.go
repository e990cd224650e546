package alloc_test

import (
	"fmt"
	"math"
	"testing"

	"gantline/alloc"
	"gantline/api"
	"gantline/arena"
	"gantline/geom"
)

// wantTake wants Take to answer a place.
func wantTake(t *testing.T, l *alloc.Alloc, words int, want int64) {
	t.Helper()
	if addr, e := l.Take(words); addr != want || e != api.OK {
		t.Errorf("Take(%d): %d, %d, want %d", words, addr, e, want)
	}
}

// wantFull wants Take to find no room.
func wantFull(t *testing.T, l *alloc.Alloc, words int) {
	t.Helper()
	if addr, e := l.Take(words); addr != 0 || e != api.EFULL {
		t.Errorf("Take(%d): %d, %d, want EFULL", words, addr, e)
	}
}

// occupy makes all spans without a class full ones of the class 5, which stay so when they are swept.
func occupy(t *testing.T, a *arena.Arena) {
	t.Helper()
	for span := 1; span < a.Spans(); span++ {
		if a.Class(span) < 0 {
			fill(t, a, span, 5, 1, 1)
		}
	}
}

// The chapter's example.
func TestExample(t *testing.T) {
	l, _ := made(t, 8)
	wantTake(t, l, 2, 64)
	wantTake(t, l, 64, 128)
	wantTake(t, l, 2, 66)
}

// P5.2: how many words may be asked for, and which class they get.
func TestTakeWords(t *testing.T) {
	for words := -3; words <= 68; words++ {
		l, a := made(t, 8)
		if words < 1 || words > 64 {
			if addr, e := l.Take(words); addr != 0 || e != api.EARG {
				t.Errorf("Take(%d): %d, %d", words, addr, e)
			}
			wantSpan(t, a, 1, -1, 0)
			continue
		}
		wantTake(t, l, words, 64)
		class := 0
		for 2<<class < words {
			class++
		}
		wantSpan(t, a, 1, class, 1)
		if n := l.Used(); n != 2<<class {
			t.Errorf("Used() behind Take(%d): %d", words, n)
		}
	}
}

// P5.2: with EARG nothing is swept, taken or changed, though there is no room either.
func TestTakeRefuses(t *testing.T) {
	l, a := made(t, 8)
	fill(t, a, 1, 0, 3, 1)
	fill(t, a, 2, 5, 1, 0)
	occupy(t, a)
	l.Stale()
	before := picture(l, a)
	for _, words := range []int{-1, 0, 65, 66, -64, 128, 1 << 32, 1<<32 + 2, math.MaxInt, math.MinInt} {
		if addr, e := l.Take(words); addr != 0 || e != api.EARG {
			t.Errorf("Take(%d): %d, %d", words, addr, e)
		}
		if picture(l, a) != before {
			t.Errorf("Take(%d) has changed something", words)
		}
	}
}

// P5.2, way 1 and 2: a class' spans are filled from the least on, then the next one is had, until there is none.
func TestTakeUntilFull(t *testing.T) {
	for class := range 6 {
		words, places := geom.Words(class), geom.Places(class)
		l, a := made(t, 9)
		for n := range 8 * places {
			wantTake(t, l, words, int64(64+n*words))
		}
		if n := l.Used(); n != 8*64 {
			t.Errorf("Used() of a full one: %d", n)
		}
		before := picture(l, a)
		for again := range 6 {
			wantFull(t, l, geom.Words(again))
			if picture(l, a) != before {
				t.Errorf("EFULL with none unswept has changed something")
			}
		}
	}
}

// P5.2: the words of what is taken anew are 0, it is not marked.
func TestTakeIsEmpty(t *testing.T) {
	l, a := made(t, 8)
	wantTake(t, l, 4, 64)
	wantTake(t, l, 4, 68)
	for at := range 4 {
		a.Write(64, at, -1)
	}
	a.Mark(68)
	l.Stale()
	wantTake(t, l, 4, 64)
	for at := range 4 {
		if v, e := a.Read(64, at); v != 0 || e != api.OK {
			t.Errorf("Read(64, %d): %d, %d", at, v, e)
		}
	}
	if m := a.Marked(1); m != 2 {
		t.Errorf("Marked(1): %b", m)
	}
}

// P5.2, way 1: the least span of the class that has room; spans of other classes, and those without one, are let be.
func TestOwnClassFirst(t *testing.T) {
	l, a := made(t, 8)
	fill(t, a, 2, 1, 3, 0)
	fill(t, a, 4, 3, 4, 0)
	fill(t, a, 5, 3, 1, 0)
	fill(t, a, 6, 3, 0, 0)
	wantTake(t, l, 16, 336)
	wantSpan(t, a, 5, 3, 3)
	wantTake(t, l, 9, 352)
	wantTake(t, l, 10, 368)
	wantTake(t, l, 11, 384)
	wantSpan(t, a, 1, -1, 0)
	wantSpan(t, a, 2, 1, 7)
	wantUnswept(t, l)
}

// P5.2, way 1: no more is swept than up to the span that has room.
func TestOwnClassIsSwept(t *testing.T) {
	l, a := made(t, 9)
	fill(t, a, 1, 2, 1, 0)
	fill(t, a, 2, 3, 4, 4)
	fill(t, a, 4, 3, 4, 0)
	fill(t, a, 5, 3, 4, 2)
	fill(t, a, 7, 3, 4, 1)
	l.Stale()
	wantUnswept(t, l, 1, 2, 4, 5, 7)
	// 2 stays full, 4 loses its class, 5 has room.
	wantTake(t, l, 16, 352)
	wantUnswept(t, l, 1, 7)
	wantSpan(t, a, 2, 3, 15)
	wantSpan(t, a, 4, -1, 0)
	wantSpan(t, a, 5, 3, 7)
	wantSpan(t, a, 7, 3, 15)
	wantTake(t, l, 16, 368)
	wantUnswept(t, l, 1, 7)
	wantTake(t, l, 16, 464)
	wantUnswept(t, l, 1)
	wantSpan(t, a, 7, 3, 3)
	wantSpan(t, a, 1, 2, 1)
	wantSpan(t, a, 3, -1, 0)
}

// P5.2, way 1: an unswept span that has room is swept all the same, and loses its class if nothing of it is marked.
func TestRoomInAnUnsweptSpan(t *testing.T) {
	l, a := made(t, 8)
	fill(t, a, 1, 4, 1, 1)
	fill(t, a, 2, 0, 4, 0)
	fill(t, a, 3, 0, 4, 1)
	l.Stale()
	wantTake(t, l, 2, 194)
	wantUnswept(t, l, 1)
	wantSpan(t, a, 2, -1, 0)
	wantSpan(t, a, 3, 0, 3)
}

// P5.2, way 1: what was swept already is not swept once more.
func TestSweptOnce(t *testing.T) {
	l, a := made(t, 8)
	fill(t, a, 1, 1, 3, 1)
	l.Stale()
	wantTake(t, l, 3, 68)
	wantTake(t, l, 3, 72)
	wantTake(t, l, 3, 76)
	wantSpan(t, a, 1, 1, 15)
	a.Clear()
	wantTake(t, l, 3, 80)
	wantSpan(t, a, 1, 1, 31)
}

// P5.2, way 2 just behind 1: the span of the class is full; what is unswept of other classes stays so.
func TestFullThenWithoutClass(t *testing.T) {
	l, a := made(t, 8)
	fill(t, a, 1, 5, 1, 0)
	fill(t, a, 2, 4, 2, 2)
	l.Stale()
	wantTake(t, l, 32, 192)
	wantUnswept(t, l, 1)
	wantSpan(t, a, 1, 5, 1)
	wantSpan(t, a, 2, 4, 3)
	wantSpan(t, a, 3, 4, 1)
	wantTake(t, l, 32, 224)
	wantTake(t, l, 32, 256)
	wantUnswept(t, l, 1)
}

// P5.2, way 2: the span that has just lost its class in way 1 is had, if it is the least.
func TestLostInWayOne(t *testing.T) {
	l, a := made(t, 8)
	fill(t, a, 1, 5, 1, 1)
	fill(t, a, 2, 4, 2, 0)
	fill(t, a, 4, 4, 2, 0)
	l.Stale()
	wantTake(t, l, 32, 128)
	wantUnswept(t, l, 1)
	wantSpan(t, a, 2, 4, 1)
	wantSpan(t, a, 3, -1, 0)
	wantSpan(t, a, 4, -1, 0)
}

// P5.2, way 2: and it is not, if an earlier one has no class.
func TestLeastWithoutClass(t *testing.T) {
	l, a := made(t, 8)
	fill(t, a, 1, 5, 1, 1)
	fill(t, a, 3, 4, 2, 0)
	l.Stale()
	wantTake(t, l, 32, 128)
	wantUnswept(t, l, 1)
	wantSpan(t, a, 2, 4, 1)
	wantSpan(t, a, 3, -1, 0)
}

// P5.2, way 2: the last span too is had.
func TestLastWithoutClass(t *testing.T) {
	for _, spans := range []int{8, 512} {
		l, a := made(t, spans)
		for span := 1; span < spans-1; span++ {
			fill(t, a, span, 5, 1, 0)
		}
		wantTake(t, l, 1, int64(64*(spans-1)))
		wantTake(t, l, 1, int64(64*(spans-1)+2))
		wantFull(t, l, 3)
	}
}

// P5.2, way 2: a span without a class that is unswept is so no more: what it gets is not swept away.
func TestWithoutClassButUnswept(t *testing.T) {
	l, a := made(t, 8)
	fill(t, a, 1, 5, 1, 0)
	fill(t, a, 2, 5, 1, 0)
	l.Stale()
	a.Sweep(1)
	a.Sweep(2)
	wantTake(t, l, 2, 64)
	wantUnswept(t, l, 2)
	l.SweepOne()
	wantUnswept(t, l)
	wantSpan(t, a, 1, 0, 1)
	wantTake(t, l, 2, 66)
	wantSpan(t, a, 1, 0, 3)
}

// P5.2, way 3 just behind 2: the unswept spans of other classes are swept until one loses its class; the rest stay unswept.
func TestOtherClassesAreSwept(t *testing.T) {
	l, a := made(t, 9)
	fill(t, a, 1, 0, 32, 1)
	fill(t, a, 2, 1, 16, 16)
	fill(t, a, 3, 4, 2, 2)
	fill(t, a, 4, 3, 4, 0)
	fill(t, a, 5, 3, 4, 0)
	fill(t, a, 6, 2, 8, 7)
	fill(t, a, 7, 5, 1, 0)
	fill(t, a, 8, 5, 1, 1)
	l.Stale()
	// The least span that keeps its class has room then, but not for this class.
	wantTake(t, l, 32, 256)
	wantUnswept(t, l, 5, 6, 7, 8)
	wantSpan(t, a, 1, 0, 1)
	wantSpan(t, a, 2, 1, 1<<16-1)
	wantSpan(t, a, 3, 4, 3)
	wantSpan(t, a, 4, 4, 1)
	wantTake(t, l, 32, 288)
	wantUnswept(t, l, 5, 6, 7, 8)
	wantTake(t, l, 32, 320)
	wantUnswept(t, l, 6, 7, 8)
	wantTake(t, l, 32, 352)
	wantTake(t, l, 32, 448)
	wantUnswept(t, l, 8)
	wantSpan(t, a, 6, 2, 127)
	wantTake(t, l, 32, 480)
	wantFull(t, l, 32)
	wantUnswept(t, l)
	wantSpan(t, a, 8, 5, 1)
}

// P5.2, way 3: those of its own class are swept in way 1, though they stay full, and are not had.
func TestOwnClassStaysFull(t *testing.T) {
	l, a := made(t, 8)
	fill(t, a, 1, 4, 2, 0)
	fill(t, a, 2, 5, 1, 0)
	fill(t, a, 3, 1, 16, 16)
	fill(t, a, 7, 1, 16, 16)
	occupy(t, a)
	l.Stale()
	wantTake(t, l, 4, 64)
	wantUnswept(t, l, 2, 4, 5, 6)
	wantSpan(t, a, 1, 1, 1)
	wantSpan(t, a, 2, 5, 1)
}

// P5.2, way 2 ahead of 3: a span of its own class that loses it is had, though an earlier one is unswept.
func TestWayTwoAheadOfThree(t *testing.T) {
	l, a := made(t, 8)
	fill(t, a, 1, 4, 2, 0)
	fill(t, a, 6, 0, 32, 0)
	occupy(t, a)
	l.Stale()
	wantTake(t, l, 2, 384)
	wantUnswept(t, l, 1, 2, 3, 4, 5, 7)
	wantSpan(t, a, 1, 4, 3)
}

// P5.2, way 3: spans that were swept already are let be, though nothing of them is marked.
func TestSweptAreLetBe(t *testing.T) {
	l, a := made(t, 8)
	fill(t, a, 1, 4, 2, 1)
	fill(t, a, 2, 4, 2, 1)
	occupy(t, a)
	l.Stale()
	l.SweepOne()
	a.Clear()
	wantTake(t, l, 2, 128)
	wantUnswept(t, l, 3, 4, 5, 6, 7)
	wantSpan(t, a, 1, 4, 1)
}

// P5.2, way 4: all is swept by then; what was given back can be had in its own class.
func TestFullBehindSweeps(t *testing.T) {
	l, a := made(t, 8)
	fill(t, a, 1, 0, 32, 1)
	fill(t, a, 3, 2, 8, 8)
	fill(t, a, 7, 1, 16, 15)
	occupy(t, a)
	l.Stale()
	wantFull(t, l, 8)
	wantUnswept(t, l)
	if l.SweepOne() {
		t.Errorf("SweepOne behind EFULL: true")
	}
	wantSpan(t, a, 1, 0, 1)
	wantSpan(t, a, 3, 2, 255)
	wantSpan(t, a, 7, 1, 1<<15-1)
	before := picture(l, a)
	wantFull(t, l, 8)
	wantFull(t, l, 64)
	if picture(l, a) != before {
		t.Errorf("EFULL with none unswept has changed something")
	}
	wantTake(t, l, 2, 66)
	wantTake(t, l, 4, 508)
	wantFull(t, l, 4)
}

// P5.2: none, behind Take, behind a sweep; unswept places are taken until they are swept.
func TestUsed(t *testing.T) {
	l, a := made(t, 8)
	want := func(n int) {
		t.Helper()
		if got := l.Used(); got != n {
			t.Errorf("Used(): %d, want %d", got, n)
		}
	}
	want(0)
	sum := 0
	for _, words := range []int{1, 2, 3, 8, 9, 32, 64, 64} {
		l.Take(words)
		sum += geom.Words(geom.Class(words))
		want(sum)
	}
	wantFull(t, l, 33)
	want(sum)
	l.Take(0)
	want(sum)
	a.Mark(64)
	a.Mark(128)
	l.Stale()
	want(sum)
	l.SweepOne() // the places 64 and 66
	want(sum - 2)
	l.SweepOne() // 128
	want(sum - 2)
	for range 8 {
		l.SweepOne()
	}
	want(2 + 4)
	a.Set(7, 5)
	want(2 + 4)
	a.Take(7)
	want(2 + 4 + 64)
}

// P5.2: of the greatest arena, each class alone.
func TestUsedOfTheGreatest(t *testing.T) {
	for class := range 6 {
		l, _ := made(t, 512)
		for n := 1; ; n++ {
			_, e := l.Take(geom.Words(class))
			if e == api.EFULL {
				break
			}
			if got := l.Used(); got != n*geom.Words(class) {
				t.Fatalf("Used() behind %d of class %d: %d", n, class, got)
			}
		}
		if got := l.Used(); got != 511*64 {
			t.Errorf("Used() of a full one: %d", got)
		}
	}
}

// Each answer is a place of its own, as long as nothing is swept.
func TestTakeApart(t *testing.T) {
	l, a := made(t, 20)
	seen := map[int64]string{}
	for n := range 600 {
		words := 1 + n*n*11%64
		addr, e := l.Take(words)
		if e != api.OK {
			continue
		}
		for at := range int64(geom.Words(geom.Class(words))) {
			if was, ok := seen[addr+at]; ok {
				t.Fatalf("Take(%d): %d, where %s is", words, addr, was)
			}
			seen[addr+at] = fmt.Sprint("the place ", addr)
		}
		if !a.Is(addr) {
			t.Errorf("Is(%d): false", addr)
		}
	}
	if n := l.Used(); n != len(seen) {
		t.Errorf("Used(): %d, want %d", n, len(seen))
	}
}
