package grey_test

import (
	"math"
	"slices"
	"testing"

	"gantline/grey"
)

// wantLike wants the queue to hold this list, told by every call that only tells.
func wantLike(t *testing.T, q *grey.Queue, list []int64) {
	t.Helper()
	if got := q.Len(); got != len(list) {
		t.Fatalf("Len: %d, want %d", got, len(list))
	}
	blocks := 0
	for held := 0; held < len(list); held += 16 {
		blocks++
	}
	if got := q.Blocks(); got != blocks {
		t.Fatalf("Blocks: %d of %d, want %d", got, len(list), blocks)
	}
	if got := q.All(); !slices.Equal(got, list) {
		t.Fatalf("All: %v, want %v", got, list)
	}
}

// wantNext wants Next to answer this address.
func wantNext(t *testing.T, q *grey.Queue, want int64) {
	t.Helper()
	if addr, ok := q.Next(); addr != want || !ok {
		t.Fatalf("Next: %d, %v, want %d", addr, ok, want)
	}
}

// wantNone wants Next to find nothing.
func wantNone(t *testing.T, q *grey.Queue) {
	t.Helper()
	if addr, ok := q.Next(); addr != 0 || ok {
		t.Fatalf("Next of none: %d, %v", addr, ok)
	}
}

// filled is a queue of so many addresses, of which so many are taken already, and what it holds.
func filled(t *testing.T, taken, left int) (*grey.Queue, []int64) {
	t.Helper()
	q := grey.New()
	var list []int64
	for n := range taken + left {
		q.Add(int64(3*n + 1))
		list = append(list, int64(3*n+1))
	}
	for n := range taken {
		wantNext(t, q, list[n])
	}
	return q, list[taken:]
}

// The chapter's example.
func TestExample(t *testing.T) {
	q := grey.New()
	q.Add(5)
	q.Add(7)
	wantNext(t, q, 5)
	wantLike(t, q, []int64{7})
}

// P6.1: a new queue has none, and asking it changes nothing.
func TestNew(t *testing.T) {
	q := grey.New()
	wantLike(t, q, nil)
	for range 40 {
		wantNone(t, q)
		wantLike(t, q, nil)
	}
	q.Add(9)
	wantLike(t, q, []int64{9})
	wantNext(t, q, 9)
	wantNone(t, q)
	wantLike(t, q, nil)
}

// P6.1: any number is an address here, also one that is there already.
func TestAddresses(t *testing.T) {
	list := []int64{0, -1, math.MinInt64, math.MaxInt64, 0, 0, 64, 64, -64, math.MinInt64, math.MaxInt64, 1 << 32, -1 << 32, 1<<31 - 1, -1 << 31, 7, 7, 0}
	q := grey.New()
	for n, addr := range list {
		q.Add(addr)
		wantLike(t, q, list[:n+1])
	}
	for n, addr := range list {
		wantNext(t, q, addr)
		wantLike(t, q, list[n+1:])
	}
	wantNone(t, q)
}

// P6.1: many thousands come out in the order in which they were put in.
func TestOrder(t *testing.T) {
	const many = 50000
	q := grey.New()
	for n := range int64(many) {
		q.Add(n * n)
	}
	if q.Len() != many || q.Blocks() != many/16 {
		t.Fatalf("Len, Blocks: %d, %d", q.Len(), q.Blocks())
	}
	for n, addr := range q.All() {
		if addr != int64(n)*int64(n) {
			t.Fatalf("All: %d at %d", addr, n)
		}
	}
	for n := range int64(many) {
		wantNext(t, q, n*n)
	}
	wantNone(t, q)
	wantLike(t, q, nil)
}

// P6.1: a queue that was long on its way, and never held many, is as a new one is.
func TestLongWay(t *testing.T) {
	q := grey.New()
	for n := range int64(20) {
		q.Add(n)
	}
	for n := range int64(50000) {
		q.Add(n + 20)
		wantNext(t, q, n)
	}
	if q.Len() != 20 || q.Blocks() != 2 {
		t.Fatalf("Len, Blocks: %d, %d", q.Len(), q.Blocks())
	}
	for n := range int64(20) {
		wantNext(t, q, n+50000)
	}
	wantLike(t, q, nil)
}

// P6.1: how many blocks, growing and shrinking, wherever in a block the first address lies.
func TestBlocks(t *testing.T) {
	blocks := map[int]int{0: 0, 1: 1, 15: 1, 16: 1, 17: 2, 31: 2, 32: 2, 33: 3, 47: 3, 48: 3, 49: 4}
	want := func(q *grey.Queue, taken int) {
		t.Helper()
		if n, ok := blocks[q.Len()]; ok && q.Blocks() != n {
			t.Errorf("Blocks of %d, behind %d: %d, want %d", q.Len(), taken, q.Blocks(), n)
		}
	}
	for taken := range 50 {
		q, _ := filled(t, taken, 0)
		want(q, taken)
		for n := range 50 {
			q.Add(int64(n))
			want(q, taken)
		}
		if q.Len() != 50 {
			t.Errorf("Len: %d, want 50", q.Len())
		}
		for range 50 {
			q.Next()
			want(q, taken)
		}
		if q.Len() != 0 {
			t.Errorf("Len: %d, want 0", q.Len())
		}
	}
}

// P6.1: what is left lies across the blocks' edges in every way, and the queue goes on from there.
func TestEdges(t *testing.T) {
	for taken := range 35 {
		for left := range 52 {
			q, list := filled(t, taken, left)
			wantLike(t, q, list)
			more := []int64{-1, -2, -3}
			for _, addr := range more {
				q.Add(addr)
			}
			list = append(list, more...)
			wantLike(t, q, list)
			for n, addr := range list {
				wantNext(t, q, addr)
				if left%7 == 0 {
					wantLike(t, q, list[n+1:])
				}
			}
			wantNone(t, q)
			wantLike(t, q, nil)
		}
	}
}

// P6.1, R4: what All answers is new memory, its spare room too.
func TestAllIsNew(t *testing.T) {
	for taken := range 20 {
		for left := range 36 {
			q, list := filled(t, taken, left)
			told, kept := q.All(), q.All()
			if other := q.All(); left > 0 && &other[0] == &told[0] {
				t.Fatal("All: one memory twice")
			}
			told = told[:cap(told)]
			for n := range told {
				told[n] = -77
			}
			wantLike(t, q, list)
			told = append(told, -78)
			for n := range 20 {
				q.Add(int64(-n))
				list = append(list, int64(-n))
			}
			wantLike(t, q, list)
			for n := range list {
				wantNext(t, q, list[n])
			}
			for n := range 40 {
				q.Add(int64(-100 - n))
			}
			if !slices.Equal(kept, list[:left]) {
				t.Fatalf("what All answered is now %v, was %v", kept, list[:left])
			}
			for n := range told {
				if want := int64(-77); n < len(told)-1 && told[n] != want {
					t.Fatalf("a later call changed what All answered: %d", told[n])
				}
			}
		}
	}
}

// P6.1: two queues know nothing of each other.
func TestTwo(t *testing.T) {
	one, two := grey.New(), grey.New()
	var first, second []int64
	for n := range int64(200) {
		one.Add(n)
		first = append(first, n)
		if n%3 > 0 {
			two.Add(-n)
			second = append(second, -n)
		}
		if n%5 == 4 {
			wantNext(t, two, second[0])
			second = second[1:]
		}
		wantLike(t, one, first)
		wantLike(t, two, second)
	}
	for len(first) > 0 {
		wantNext(t, one, first[0])
		first = first[1:]
		wantLike(t, two, second)
	}
	wantNone(t, one)
	wantLike(t, two, second)
}
