package fresh

import (
	"container/heap"
	"sort"

	"gantline/code"
	"gantline/live"
	"gantline/op"
)

// graph has a node for each instruction of a function, at its place, and behind these the nodes of its module's cases.
type graph struct {
	m     code.Module
	f     code.Func
	cases caseTree
	ahead []*known // what is known ahead of each node; nil: no way has come to it
	waits []bool   // which nodes are in the queue
	work  queue
}

func graphOf(m code.Module, f code.Func) *graph {
	cases := caseTreeOf(m.Cases)
	count := len(f.Code) + cases.nodes()
	return &graph{m: m, f: f, cases: cases, ahead: make([]*known, count), waits: make([]bool, count)}
}

// knownAt tells what is known ahead of an instruction.
func (g *graph) knownAt(pc int) known {
	if g.ahead[pc] == nil {
		return known{}
	}
	return *g.ahead[pc]
}

// settle goes along all ways from the first instruction on, till none of them tells anything new. At each node less and less is known: so it ends.
func (g *graph) settle() {
	if len(g.f.Code) == 0 {
		return
	}
	g.come(0, &known{})
	for g.work.Len() > 0 {
		at := heap.Pop(&g.work).(int)
		g.waits[at] = false
		behind := g.behind(at)
		for _, next := range g.follows(at) {
			g.come(next, &behind)
		}
	}
}

// come lets a way on which k is known end at a node. The node waits to be gone on from, if that tells it anything.
func (g *graph) come(at int, k *known) {
	if g.ahead[at] == nil {
		first := *k
		g.ahead[at] = &first
	} else if !g.ahead[at].meet(k) {
		return
	}
	if !g.waits[at] {
		g.waits[at] = true
		heap.Push(&g.work, at)
	}
}

// behind is what is known behind a node that some way has come to.
func (g *graph) behind(at int) known {
	k := *g.ahead[at]
	if at >= len(g.f.Code) {
		return k
	}
	i := g.f.Code[at]
	k.pass(g.m, i)
	if i.Op == op.Select {
		for _, n := range g.cases.cover(i) {
			k.handOut(g.cases.sent[n])
			k.forget(g.cases.received[n])
		}
	}
	return k
}

// follows are the nodes that a node leads to.
func (g *graph) follows(at int) []int {
	size := len(g.f.Code)
	switch {
	case at >= size:
		return g.followsCases(at - size)
	case g.f.Code[at].Op == op.Select:
		return g.nodesOf(g.cases.cover(g.f.Code[at]))
	}
	return live.Follows(g.m, g.f, at)
}

// followsCases are the nodes that a node of the cases leads to.
func (g *graph) followsCases(n int) []int {
	if !g.cases.isLeaf(n) {
		return g.nodesOf(g.cases.children(n))
	}
	if target := g.cases.caseOf(n).Target; target >= 0 && target < len(g.f.Code) {
		return []int{target}
	}
	return nil
}

// nodesOf are the numbers that nodes of the cases have here.
func (g *graph) nodesOf(list []int) []int {
	nodes := make([]int, len(list))
	for k, n := range list {
		nodes[k] = len(g.f.Code) + n
	}
	return nodes
}

// queue hands out the lowest node first: code goes forward for the most part, so that what a node is told is mostly settled when its turn comes.
type queue struct{ sort.IntSlice }

// Push is heap's.
func (q *queue) Push(at any) { q.IntSlice = append(q.IntSlice, at.(int)) }

// Pop is heap's.
func (q *queue) Pop() any {
	last := len(q.IntSlice) - 1
	at := q.IntSlice[last]
	q.IntSlice = q.IntSlice[:last]
	return at
}
