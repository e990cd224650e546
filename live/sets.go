package live

import (
	"gantline/code"
	"gantline/op"
)

// Sets tells what is read later.
func Sets(m code.Module, f code.Func) []uint64 {
	g := graphOf(m, f)
	g.settle()
	sets := make([]uint64, len(f.Code))
	for pc := range sets {
		sets[pc] = g.nodes[pc].set
	}
	return sets
}

// Maps tells the addresses among them.
func Maps(m code.Module, f code.Func) []uint64 {
	sets := Sets(m, f)
	addresses := kindMap(f.Kinds)
	for pc := range sets {
		sets[pc] &= addresses
	}
	return sets
}

// all has every slot.
const all = ^uint64(0)

// slotMap has a bit for each slot from 0 to 63.
func slotMap(slots []int) uint64 {
	set := uint64(0)
	for _, s := range slots {
		// Without its sign a slot below 0 is a great one, and the bit of a great one is shifted out: both are left out.
		set |= 1 << uint64(s)
	}
	return set
}

// kindMap has a bit for each slot that holds an address.
func kindMap(kinds []bool) uint64 {
	set := uint64(0)
	for s, address := range kinds {
		if address {
			set |= 1 << s
		}
	}
	return set
}

// node stands for an instruction, or for some of a select's cases.
type node struct {
	set  uint64 // what may be read from here on, ahead of being written: it grows till nothing more is known
	kept uint64 // what is not written here
	next []int  // the nodes that follow
}

// stretch is some of a module's cases.
type stretch struct{ first, count int }

// graph has a node for each instruction of a function, at its place, and behind these the nodes of its selects' cases.
type graph struct {
	m     code.Module
	f     code.Func
	nodes []node
	made  map[stretch]int // the nodes of cases
}

func graphOf(m code.Module, f code.Func) *graph {
	g := &graph{m: m, f: f, nodes: make([]node, len(f.Code)), made: map[stretch]int{}}
	for pc, i := range f.Code {
		var n node
		if i.Op == op.Select {
			n = g.selectNode(i)
		} else {
			n = node{set: slotMap(Reads(m, i)), kept: ^slotMap(Writes(i)), next: Follows(m, f, pc)}
		}
		// Not ahead of selectNode, which may move the list.
		g.nodes[pc] = n
	}
	return g
}

// selectNode leaves what a select reads to the nodes of its cases, for each of them writes on its own way.
func (g *graph) selectNode(i code.Instr) node {
	n := node{kept: all}
	if cases := casesOf(g.m, i); len(cases) > 0 {
		n.next = []int{g.stretchNode(stretch{i.A, len(cases)})}
	}
	return n
}

// stretchNode finds the node of some cases, at least one, or makes it of two stretches that may overlap. These are as long as a power of two, so that selects which share cases share nodes too: else as many ways could be laid as there are selects times cases.
func (g *graph) stretchNode(s stretch) int {
	if at, ok := g.made[s]; ok {
		return at
	}
	var n node
	if s.count == 1 {
		n = g.caseNode(g.m.Cases[s.first])
	} else {
		half := powerBelow(s.count)
		front := g.stretchNode(stretch{s.first, half})
		back := g.stretchNode(stretch{s.first + s.count - half, half})
		n = node{kept: all, next: []int{front, back}}
	}
	at := len(g.nodes)
	g.nodes = append(g.nodes, n)
	g.made[s] = at
	return at
}

// powerBelow is the greatest power of two below n, which is at least 2: twice as much is n or more.
func powerBelow(n int) int {
	power := 1
	for power<<1 < n {
		power <<= 1
	}
	return power
}

func (g *graph) caseNode(c code.Case) node {
	n := node{set: slotMap(caseReads(c)), kept: all, next: placesIn(g.f, c.Target)}
	if c.Kind == op.CaseRecv {
		n.kept = ^slotMap([]int{c.Val})
	}
	return n
}

// settle lets each node's set grow by those that follow. Only ahead of a node that has grown is there anything to do: so it ends, whatever leads where, behind 64 turns of each way.
func (g *graph) settle() {
	ahead := g.ahead()
	work := make([]int, len(g.nodes))
	for at := range work {
		work[at] = at
	}
	for len(work) > 0 {
		last := len(work) - 1
		from := work[last]
		work = work[:last]
		for _, at := range ahead[from] {
			if g.nodes[at].grow(g.nodes[from].set) {
				work = append(work, at)
			}
		}
	}
}

// grow adds what may be read behind the node; it tells whether that is anything new.
func (n *node) grow(behind uint64) bool {
	old := n.set
	n.set |= behind & n.kept
	return n.set != old
}

// ahead tells for each node those that it follows.
func (g *graph) ahead() [][]int {
	list := make([][]int, len(g.nodes))
	for at, n := range g.nodes {
		for _, next := range n.next {
			list[next] = append(list[next], at)
		}
	}
	return list
}
