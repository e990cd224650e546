package vm_test

import (
	"math/big"
	"slices"

	"gantline/api"
	"gantline/code"
	"gantline/op"
	"gantline/sched"
	"gantline/vm"
)

// word is a number, or what an address leads to.
type word struct {
	n  int64
	to *thing
}

// thing is an object: it has no address, and nobody ever gives it back.
type thing struct {
	kind, shape int    // a closure's shape is its function's number
	words       []word // its fields, elements, what it has caught, or what is in it
	room        int
	closed      bool
}

// call is a function that was called.
type call struct {
	fn, pc int
	slots  []word
}

// routine is a goroutine.
type routine struct {
	id    int
	calls []call
}

// plain does what the chapter says, one sentence after the other, without a heap.
type plain struct {
	m       code.Module
	all     []*routine
	last    int
	globals []word
	out     []int64
	acts    []vm.Act
	end     api.End
	trap    api.Trap
	full    bool // is there no room for what is made?
}

func plainOf(m code.Module) *plain {
	p := &plain{m: m, globals: make([]word, len(m.Globals))}
	p.add(m.Main, nil)
	p.stuck()
	return p
}

func (p *plain) add(fn int, args []word) {
	p.last++
	p.all = append(p.all, &routine{p.last, []call{p.frame(fn, args)}})
}

func (p *plain) frame(fn int, args []word) call {
	c := call{fn: fn, slots: make([]word, p.m.Funcs[fn].Slots)}
	copy(c.slots, args)
	return c
}

func (p *plain) routine(id int) *routine {
	for _, r := range p.all {
		if r.id == id {
			return r
		}
	}
	return nil
}

func (r *routine) top() *call { return &r.calls[len(r.calls)-1] }

func (p *plain) instr(r *routine) code.Instr {
	return p.m.Funcs[r.top().fn].Code[r.top().pc]
}

func (p *plain) kind(r *routine, slot int) bool { return p.m.Funcs[r.top().fn].Kinds[slot] }

// use is a part in what goes through a channel.
type use struct {
	r      *routine
	place  int // of its case; -1 of a send or recv
	sends  bool
	ch     *thing
	is     bool
	val    int
	flag   int
	target int
	idle   bool // is it a default?
}

// uses are what a goroutine's instruction may do with channels.
func (p *plain) uses(r *routine) []use {
	i, next := p.instr(r), r.top().pc+1
	switch i.Op {
	case op.Send:
		return []use{p.use(r, -1, true, i.A, i.B, -1, next)}
	case op.Recv:
		return []use{p.use(r, -1, false, i.B, i.A, i.C, next)}
	case op.Select:
		var list []use
		for k, c := range p.m.Cases[i.A : i.A+i.B] {
			if c.Kind != 2 {
				list = append(list, p.use(r, k, c.Kind == 1, c.Chan, c.Val, -1, c.Target))
			}
		}
		return list
	}
	return nil
}

func (p *plain) use(r *routine, place int, sends bool, at, val, flag, target int) use {
	ch := r.top().slots[at].to
	is := ch != nil && ch.kind == 3
	if is && val != -1 {
		is = (p.m.Shapes[ch.shape].Map == 1) == p.kind(r, val)
	}
	return use{r, place, sends, ch, is, val, flag, target, false}
}

// alone tells whether it needs no partner; a case of no channel has no way at all.
func (u use) alone() bool {
	if !u.is {
		return u.place == -1
	}
	if u.sends {
		return u.ch.closed || len(u.ch.words) < u.ch.room
	}
	return u.ch.closed || len(u.ch.words) > 0
}

// ways are those of a goroutine, and what is used in each by both.
func (p *plain) ways(id int) ([]sched.Way, [][2]use) {
	r := p.routine(id)
	if r == nil || p.end != 0 {
		return nil, nil
	}
	i := p.instr(r)
	if i.Op != op.Send && i.Op != op.Recv && i.Op != op.Select {
		return []sched.Way{{Case: -1, Partner: 0, PartnerCase: -1}}, [][2]use{{}}
	}
	var ways []sched.Way
	var both [][2]use
	for _, u := range p.uses(r) {
		if u.alone() {
			ways, both = append(ways, sched.Way{Case: u.place, Partner: 0, PartnerCase: -1}), append(both, [2]use{u})
		} else if u.is && u.ch.room == 0 {
			for _, o := range p.partners(u) {
				ways, both = append(ways, sched.Way{Case: u.place, Partner: o.r.id, PartnerCase: o.place}), append(both, [2]use{u, o})
			}
		}
	}
	if len(ways) == 0 && i.Op == op.Select {
		for k, c := range p.m.Cases[i.A : i.A+i.B] {
			if c.Kind == 2 {
				return []sched.Way{{Case: k, Partner: 0, PartnerCase: -1}}, [][2]use{{{r: r, target: c.Target, idle: true}}}
			}
		}
	}
	return ways, both
}

func (p *plain) partners(u use) []use {
	var list []use
	for _, r := range p.all {
		for _, o := range p.uses(r) {
			if r != u.r && o.is && o.ch == u.ch && o.sends != u.sends {
				list = append(list, o)
			}
		}
	}
	return list
}

func (p *plain) enabled() []int {
	var ids []int
	for _, r := range p.all {
		if ways, _ := p.ways(r.id); len(ways) > 0 {
			ids = append(ids, r.id)
		}
	}
	return ids
}

// stuck ends all, if nobody may go on.
func (p *plain) stuck() {
	if p.end == 0 && len(p.enabled()) == 0 {
		p.end = api.EndDeadlock
	}
}

func (p *plain) fall(trap api.Trap) { p.end, p.trap = api.EndTrap, trap }

// do does an instruction; full says that there is no room for what it makes.
func (p *plain) do(id, way int, full bool) {
	ways, both := p.ways(id)
	r := p.routine(id)
	i, at, deep := p.instr(r), *r.top(), len(r.calls)
	p.full = full
	switch i.Op {
	case op.Send, op.Recv, op.Select:
		p.talk(both[way][0], both[way][1])
	case op.Call, op.Callc, op.Go, op.Goc:
		p.call(r, i)
	case op.Return:
		p.giveBack(r, i)
	default:
		p.straight(r, i)
	}
	isAct := i.Op >= 23 && i.Op <= 42 && i.Op != 36 || i.Op == 22 && deep == 1
	if isAct && p.end != api.EndTrap && p.end != api.EndMemory {
		p.acts = append(p.acts, vm.Act{ID: id, Op: i.Op, Func: at.fn, PC: at.pc, Way: ways[way]})
	}
	p.stuck()
}

func (p *plain) talk(u, o use) {
	switch {
	case o.r != nil:
		from, to := u, o
		if !u.sends {
			from, to = o, u
		}
		to.get(from.r.top().slots[from.val], 1)
		o.r.top().pc = o.target
	case u.idle:
	case !u.is:
		p.fall(api.TrapNil)
	case u.sends && u.ch.closed:
		p.fall(api.TrapClosed)
	case u.sends:
		u.ch.words = append(u.ch.words, u.r.top().slots[u.val])
	case len(u.ch.words) > 0:
		u.get(u.ch.words[0], 1)
		u.ch.words = slices.Clone(u.ch.words[1:])
	default:
		u.get(word{}, 0)
	}
	if p.end == 0 {
		u.r.top().pc = u.target
	}
}

func (u use) get(v word, came int64) {
	if u.val != -1 {
		u.r.top().slots[u.val] = v
	}
	if u.flag != -1 {
		u.r.top().slots[u.flag] = word{n: came}
	}
}

func (p *plain) call(r *routine, i code.Instr) {
	closure := i.Op == op.Callc || i.Op == op.Goc
	isGo := i.Op == op.Go || i.Op == op.Goc
	// Of each of the four: the function or closure, the first argument, and how many.
	what := map[int][3]int{op.Call: {i.B, i.C}, op.Go: {i.A, i.B}, op.Callc: {i.B, i.C, i.D}, op.Goc: {i.A, i.B, i.C}}[i.Op]
	number, count := what[0], what[2]
	var behind []word
	if closure {
		c := r.top().slots[what[0]].to
		if c == nil || c.kind != 2 {
			p.fall(api.TrapNil)
			return
		}
		number, behind = c.shape, c.words
	}
	f := p.m.Funcs[number]
	if !closure {
		count = f.Params
	}
	fits := f.Params == count
	var args []word
	for k := 0; k < count; k++ {
		fits = fits && f.Kinds[k] == p.kind(r, what[1]+k)
		args = append(args, r.top().slots[what[1]+k])
	}
	if closure {
		fits = fits && (isGo && f.Result == 0 || !isGo && (i.A == -1 || f.Result == 1 && !p.kind(r, i.A) || f.Result == 2 && p.kind(r, i.A)))
	}
	args = append(args, behind...)
	switch {
	case !fits:
		p.fall(api.TrapNil)
	case isGo && len(p.all) == 64 || !isGo && len(r.calls) == 256:
		p.fall(api.TrapDeep)
	case isGo:
		p.add(number, args)
		r.top().pc++
	default:
		r.calls = append(r.calls, p.frame(number, args))
	}
}

func (p *plain) giveBack(r *routine, i code.Instr) {
	var v word
	if i.A != -1 {
		v = r.top().slots[i.A]
	}
	r.calls = r.calls[:len(r.calls)-1]
	if len(r.calls) == 0 {
		p.all = slices.DeleteFunc(p.all, func(x *routine) bool { return x == r })
		if r.id == 1 {
			p.end = api.EndExit
		}
		return
	}
	if a := p.instr(r).A; a != -1 {
		r.top().slots[a] = v
	}
	r.top().pc++
}

// straight does all but calls and channels: behind it, it is the next one's turn, or another's.
func (p *plain) straight(r *routine, i code.Instr) {
	c := r.top()
	next := c.pc + 1
	switch {
	case i.Op <= op.Not || code.Maker(i.Op) || i.Op == op.Get || i.Op == op.At || i.Op == op.Len || i.Op == op.Load:
		if v := p.value(r, i); p.end == 0 {
			c.slots[i.A] = v
		}
	case i.Op == op.Jump:
		next = i.A
	case i.Op == op.If && c.slots[i.A].n != 0:
		next = i.B
	case i.Op == op.Set || i.Op == op.Setn:
		if f := p.field(c.slots[i.A].to, i.B, p.kind(r, i.C)); f != nil {
			*f = c.slots[i.C]
		}
	case i.Op == op.Put || i.Op == op.Putn:
		if f := p.element(c.slots[i.A].to, c.slots[i.B].n, p.kind(r, i.C)); f != nil {
			*f = c.slots[i.C]
		}
	case i.Op == op.Store:
		p.globals[i.A] = c.slots[i.B]
	case i.Op == op.Close:
		ch := c.slots[i.A].to
		if ch == nil || ch.kind != 3 {
			p.fall(api.TrapNil)
		} else if ch.closed {
			p.fall(api.TrapClosed)
		} else {
			ch.closed = true
		}
	case i.Op == op.Print:
		if len(p.out) < 65536 {
			p.out = append(p.out, c.slots[i.A].n)
		}
	case i.Op == op.Trap:
		p.fall(api.Trap(i.A))
	}
	if p.end == 0 {
		c.pc = next
	}
}

// field is one of a plain object.
func (p *plain) field(x *thing, field int, address bool) *word {
	if x == nil || x.kind != 0 || field < 0 || field >= len(x.words) || (p.m.Shapes[x.shape].Map>>field&1 == 1) != address {
		p.fall(api.TrapNil)
		return nil
	}
	return &x.words[field]
}

// element is one of an array.
func (p *plain) element(x *thing, at int64, address bool) *word {
	if x == nil || x.kind != 1 || (p.m.Shapes[x.shape].Map == 1) != address {
		p.fall(api.TrapNil)
		return nil
	}
	if at < 0 || at >= int64(len(x.words)) {
		p.fall(api.TrapIndex)
		return nil
	}
	return &x.words[at]
}

// value is what slot A gets.
func (p *plain) value(r *routine, i code.Instr) word {
	c := r.top()
	slot := func(n int) word { return c.slots[n] }
	switch i.Op {
	case op.Const:
		return word{n: p.m.Consts[i.B]}
	case op.Move:
		return slot(i.B)
	case op.Nil:
		return word{}
	case op.Not:
		return word{n: truth(slot(i.B).n == 0)}
	case op.Same:
		return word{n: truth(slot(i.B).to == slot(i.C).to)}
	case op.Get:
		if f := p.field(slot(i.B).to, i.C, p.kind(r, i.A)); f != nil {
			return *f
		}
		return word{}
	case op.At:
		if f := p.element(slot(i.B).to, slot(i.C).n, p.kind(r, i.A)); f != nil {
			return *f
		}
		return word{}
	case op.Len:
		x := slot(i.B).to
		if x == nil || x.kind != 1 {
			p.fall(api.TrapNil)
			return word{}
		}
		return word{n: int64(len(x.words))}
	case op.Load:
		return p.globals[i.B]
	case op.New, op.Array, op.Closure, op.Chan:
		return p.made(r, i)
	}
	v, trap := plainNumber(i.Op, slot(i.B).n, slot(i.C).n)
	if trap != 0 {
		p.fall(trap)
	}
	return word{n: v}
}

func (p *plain) made(r *routine, i code.Instr) word {
	x := &thing{shape: i.B}
	switch i.Op {
	case op.New:
		x.words = make([]word, p.m.Shapes[i.B].Fields)
	case op.Array:
		length := r.top().slots[i.C].n
		if length < 0 || length > 63 {
			p.fall(api.TrapSize)
			return word{}
		}
		x.kind, x.words = 1, make([]word, length)
	case op.Closure:
		x.kind = 2
		for k := 0; k < p.m.Funcs[i.B].Caught; k++ {
			x.words = append(x.words, r.top().slots[i.C+k])
		}
	case op.Chan:
		room := r.top().slots[i.C].n
		if room < 0 || room > 59 {
			p.fall(api.TrapSize)
			return word{}
		}
		x.kind, x.room = 3, int(room)
	}
	if p.full {
		p.end = api.EndMemory
		return word{}
	}
	return word{to: x}
}

// live are all things that can be come to: what the maps and the globals name, and what these lead to.
func (p *plain) live() map[*thing]struct{} {
	found := map[*thing]struct{}{}
	var visit func(v word)
	visit = func(v word) {
		if v.to == nil {
			return
		}
		if _, ok := found[v.to]; ok {
			return
		}
		found[v.to] = struct{}{}
		for _, held := range v.to.words {
			visit(held)
		}
	}
	for _, v := range p.globals {
		visit(v)
	}
	for _, r := range p.all {
		for _, c := range r.calls {
			for slot, v := range c.slots {
				if p.m.Funcs[c.fn].Maps[c.pc]>>slot&1 == 1 {
					visit(v)
				}
			}
		}
	}
	return found
}

func truth(yes bool) int64 {
	if yes {
		return 1
	}
	return 0
}

// plainNumber reckons with numbers of any size, and brings what comes out into 63 bits.
func plainNumber(o int, b, c int64) (int64, api.Trap) {
	x, y := big.NewInt(b), big.NewInt(c)
	z := new(big.Int)
	switch o {
	case op.Add:
		z.Add(x, y)
	case op.Sub:
		z.Sub(x, y)
	case op.Mul:
		z.Mul(x, y)
	case op.Div, op.Mod:
		if c == 0 {
			return 0, api.TrapZero
		}
		if o == op.Div {
			z.Quo(x, y)
		} else {
			z.Rem(x, y)
		}
	case op.And:
		z.And(x, y)
	case op.Or:
		z.Or(x, y)
	case op.Xor:
		z.Xor(x, y)
	case op.Shl:
		if c >= 0 && c <= 62 {
			z.Lsh(x, uint(c))
		}
	case op.Shr:
		z.Rsh(x, 63)
		if c >= 0 && c <= 62 {
			z.Rsh(x, uint(c))
		}
	case op.Lt:
		return truth(b < c), 0
	case op.Le:
		return truth(b <= c), 0
	case op.Eq:
		return truth(b == c), 0
	}
	all := new(big.Int).Lsh(big.NewInt(1), 63)
	z.Mod(z, all)
	if z.Bit(62) == 1 {
		z.Sub(z, all)
	}
	return z.Int64(), 0
}
