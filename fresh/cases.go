package fresh

import (
	"gantline/code"
	"gantline/op"
)

// caseTree has a node for each of a module's cases (a leaf), and nodes each of which stands for all cases below it: the children of n are 2n and 2n+1, the leaves are the last nodes, in the cases' order; 0 is none.
// So a select's cases are a few nodes, however many they are, and selects that share cases share nodes: else as many ways could be laid as there are selects times cases.
type caseTree struct {
	cases          []code.Case
	sent, received []uint64 // of each node the slots that its cases send, and receive to
}

func caseTreeOf(cases []code.Case) caseTree {
	size := len(cases)
	t := caseTree{cases: cases, sent: make([]uint64, 2*size), received: make([]uint64, 2*size)}
	for k, c := range cases {
		switch c.Kind {
		case op.CaseSend:
			t.sent[size+k] = bit(c.Val)
		case op.CaseRecv:
			t.received[size+k] = bit(c.Val)
		}
	}
	for n := size - 1; n > 0; n-- {
		t.sent[n] = t.sent[2*n] | t.sent[2*n+1]
		t.received[n] = t.received[2*n] | t.received[2*n+1]
	}
	return t
}

func (t caseTree) nodes() int { return 2 * len(t.cases) }

func (t caseTree) isLeaf(n int) bool { return n >= len(t.cases) }

// caseOf is a leaf's case.
func (t caseTree) caseOf(n int) code.Case { return t.cases[n-len(t.cases)] }

// children are those of a node that is no leaf.
func (t caseTree) children(n int) []int { return []int{2 * n, 2*n + 1} }

// cover are nodes that stand for just a select's cases, none if they are not all there.
func (t caseTree) cover(i code.Instr) []int {
	size := len(t.cases)
	// A + B could wrap round; how many there are less A cannot, as A is not below 0.
	if i.A < 0 || i.B < 0 || i.B > size-i.A {
		return nil
	}
	var list []int
	// From the leaves on up: a node at either end whose parent stands for more than is left is taken itself.
	for low, high := size+i.A, size+i.A+i.B; low < high; low, high = low/2, high/2 {
		if low%2 == 1 {
			list = append(list, low)
			low++
		}
		if high%2 == 1 {
			high--
			list = append(list, high)
		}
	}
	return list
}
