package vm_test

import (
	"fmt"
	"slices"
	"testing"

	"gantline/api"
	"gantline/code"
	"gantline/geom"
	"gantline/op"
	"gantline/sched"
	"gantline/verify"
)

// tally counts what was seen over many runs.
type tally struct {
	ends                       [5]int
	traps                      [7]int
	ops                        [45]int
	steps, pairs, done, forced int
	restless                   int // pairs while a collection shades
}

// race is a machine, and the plain one that goes along.
type race struct {
	world
	p *plain
	d *dice
	n *tally
}

// wantLike wants both to tell the same.
func (r race) wantLike(where string) {
	r.t.Helper()
	e, trap := r.End()
	if e != r.p.end || trap != r.p.trap {
		r.t.Fatalf("%s: End: %d, %d, want %d, %d", where, e, trap, r.p.end, r.p.trap)
	}
	if got, want := r.Enabled(), r.p.enabled(); !slices.Equal(got, want) {
		r.t.Fatalf("%s: Enabled: %v, want %v", where, got, want)
	}
	var ids []int
	for _, x := range r.p.all {
		ids = append(ids, x.id)
	}
	if got := r.Stacks(); !slices.Equal(got, ids) {
		r.t.Fatalf("%s: Stacks: %v, want %v", where, got, ids)
	}
	if got, want := len(r.Live()), len(r.p.live()); got != want {
		r.t.Fatalf("%s: %d are live, want %d", where, got, want)
	}
	r.wantSound(where)
}

// wantLikeAtEnd wants what was printed and told to be the same, and all goroutines' Ways.
func (r race) wantLikeAtEnd() {
	r.t.Helper()
	if got := r.Out(); !slices.Equal(got, r.p.out) {
		r.t.Fatalf("Out: %v, want %v", got, r.p.out)
	}
	if got := r.Acts(); !slices.Equal(got, r.p.acts) {
		r.t.Fatalf("Acts: %v, want %v", got, r.p.acts)
	}
}

// pick does one thing by chance; gc says how often the collector goes on.
func (r race) pick(gc int) {
	r.t.Helper()
	if r.d.below(100) < gc {
		if !r.Collect() {
			r.t.Fatalf("Collect is refused")
		}
		r.wantLike("behind Collect")
		return
	}
	ids := r.Enabled()
	id := ids[r.d.below(len(ids))]
	ways, _ := r.p.ways(id)
	if r.Ways(id) != len(ways) {
		r.t.Fatalf("Ways(%d): %d, want %v", id, r.Ways(id), ways)
	}
	way := r.d.below(len(ways))
	i, acts := r.p.instr(r.p.routine(id)), len(r.p.acts)
	if !r.Do(id, way) {
		r.t.Fatalf("Do(%d, %d) is refused", id, way)
	}
	e, _ := r.End()
	if e == api.EndMemory {
		r.wantFull(i)
	}
	r.p.do(id, way, e == api.EndMemory)
	r.wantLike(fmt.Sprintf("behind %s of %d in the way %v", code.Show(i), id, ways[way]))
	if len(r.p.acts) > acts {
		if got := r.Acts()[acts:]; !slices.Equal(got, r.p.acts[acts:]) {
			r.t.Fatalf("Acts: %v, want %v", got, r.p.acts[acts:])
		}
	}
	r.count(i, ways[way])
}

func (r race) count(i code.Instr, way sched.Way) {
	r.n.ops[i.Op]++
	if way.Partner > 0 {
		r.n.pairs++
		if r.phase() == roots || r.phase() == marking {
			r.n.restless++
		}
	}
}

// wantFull wants that there is no room for what an instruction would make, and that all that is taken is live.
func (r race) wantFull(i code.Instr) {
	r.t.Helper()
	a := r.Heap().Cycle().Arena()
	taken, free := 0, map[int]int{}
	for span := 1; span < a.Spans(); span++ {
		class := a.Class(span)
		if class < 0 {
			r.t.Fatalf("%s: EndMemory with a free span", code.Show(i))
		}
		for place := range geom.Places(class) {
			if a.Is(geom.Addr(span, place, class)) {
				taken++
			} else {
				free[class]++
			}
		}
	}
	if taken != len(r.Live()) {
		r.t.Fatalf("%s: EndMemory with %d that are taken, %d live", code.Show(i), taken, len(r.Live()))
	}
	if i.Op == op.New && free[geom.Class(shapes()[i.B].Fields+1)] > 0 {
		r.t.Fatalf("%s: EndMemory with a free place", code.Show(i))
	}
}

// runs runs a module by chance a few times.
func runs(t *testing.T, d *dice, m code.Module, n *tally) {
	t.Helper()
	for range 3 {
		r := race{begunOn(t, d.one(8, 8, 9, 12, 40), m), plainOf(m), d, n}
		r.wantLike("at first")
		gc := d.one(0, 2, 10, 30, 60)
		for range 700 {
			if e, _ := r.End(); e != api.EndNone {
				break
			}
			r.pick(gc)
			n.steps++
		}
		r.wantLikeAtEnd()
		e, trap := r.End()
		n.ends[e]++
		n.traps[trap]++
		n.done += r.Heap().Cycle().Done()
		n.forced += r.Heap().Forced()
	}
}

// P17.1 to P17.4: many modules that may be run, and many orders of picks and Collects, against the plain machine; Sound holds behind each step.
func TestChance(t *testing.T) {
	d, n := dice(17), tally{}
	for range 300 {
		m := d.module()
		if fault, ok := verify.Check(m); !ok {
			t.Fatalf("a module has the fault %v: %s", fault, code.Show(m.Funcs[fault.Func].Code[fault.PC]))
		}
		runs(t, &d, m, &n)
	}
	n.wantMuch(t)
}

// wantMuch wants the runs to have been such that much is told by them.
func (n tally) wantMuch(t *testing.T) {
	t.Helper()
	for o, often := range n.ops {
		if often == 0 {
			t.Errorf("%s was never done", code.Name(o))
		}
	}
	for e, often := range n.ends {
		if often < 4 {
			t.Errorf("the end %d came %d times", e, often)
		}
	}
	for trap, often := range n.traps {
		if often == 0 {
			t.Errorf("the trap %d never came", trap)
		}
	}
	if n.steps < 100000 || n.pairs < 2000 || n.restless < 1000 || n.done < 1000 || n.forced < 20 {
		t.Errorf("%d steps, %d pairs, %d of them while a collection shades, %d collections, %d forced", n.steps, n.pairs, n.restless, n.done, n.forced)
	}
}
