package grey_test

import (
	"testing"

	"gantline/grey"
)

// pair is a queue and the plain list that it should be like.
type pair struct {
	q    *grey.Queue
	list []int64
	next int64
}

func newPair() *pair { return &pair{q: grey.New()} }

func (p *pair) add() {
	p.next++
	p.q.Add(p.next * 64)
	p.list = append(p.list, p.next*64)
}

func (p *pair) take(t *testing.T) {
	t.Helper()
	if len(p.list) == 0 {
		wantNone(t, p.q)
		return
	}
	wantNext(t, p.q, p.list[0])
	p.list = p.list[1:]
}

// P6.1: every mixture of eleven calls, at the beginning and where a block ends.
func TestEveryMixture(t *testing.T) {
	const calls = 11
	for _, ahead := range []int{0, 13, 16, 30} {
		for mixture := range 1 << calls {
			p := newPair()
			for range ahead {
				p.add()
			}
			for n := range ahead / 2 {
				if mixture%2 == 0 || n < 3 {
					p.take(t)
				}
			}
			for n := range calls {
				if mixture>>n&1 == 1 {
					p.add()
				} else {
					p.take(t)
				}
				wantLike(t, p.q, p.list)
			}
		}
	}
}

// P6.1: three runs of calls, of every length up to past two blocks.
func TestRuns(t *testing.T) {
	for added := range 36 {
		for taken := range 36 {
			for again := range 36 {
				p := newPair()
				for range added {
					p.add()
				}
				for range taken {
					p.take(t)
				}
				for range again {
					p.add()
				}
				wantLike(t, p.q, p.list)
			}
		}
	}
}

// P6.1: many calls in turn, whose number grows, stays and shrinks by and by.
func TestAgainstList(t *testing.T) {
	seed := uint64(6)
	p := newPair()
	for step := range 60000 {
		seed = seed*6364136223846793005 + 1442695040888963407
		// Out of ten: how many calls add, by turns more and fewer than those that take.
		adds := uint64([]int{5, 6, 5, 3}[step/500%4])
		if (seed>>33)%10 < adds {
			p.add()
		} else {
			p.take(t)
		}
		wantLike(t, p.q, p.list)
	}
}
