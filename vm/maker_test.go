package vm_test

import (
	"slices"

	"gantline/code"
	"gantline/fresh"
	"gantline/op"
)

// dice tells numbers that look like chance, and are always the same.
type dice uint64

func (d *dice) below(n int) int {
	*d = *d*6364136223846793005 + 1442695040888963407
	return int(uint64(*d) >> 33 % uint64(n))
}

func (d *dice) one(of ...int) int { return of[d.below(len(of))] }

// seldom is true once in so many times.
func (d *dice) seldom(n int) bool { return d.below(n) == 0 }

// Sorts of slots: what they hold, as a rule.
const (
	number = iota
	aPair
	aNums
	aRefs
	aPipe
	aPipes
	aClosure
)

// The sorts of what all functions take and catch: each the first so many of these.
var (
	takes   = []int{number, aPair, aPipe, aPipes}
	catches = []int{number, aPair, aPipes}
)

// maker makes one function by chance.
type maker struct {
	*dice
	m      *code.Module
	sigs   []code.Func // the functions' Params, Caught, Result
	self   int
	sorts  []int // by the slots
	flag   int   // a slot for what is asked and forgotten
	blank  int   // an address slot for the like
	args   int   // slots in which arguments stand, as takes says
	keep   int   // slots in which what is caught stands, as catches says
	list   []code.Instr
	counts int // slots that count loops are from here on
	depth  int
}

func (k *maker) emit(o int, operands ...int) { k.list = append(k.list, in(o, operands...)) }

func (k *maker) num(slot int, v int64) { k.list = append(k.list, num(slot, v)) }

// slot is one of a sort; seldom one of another sort of the same kind.
func (k *maker) slot(sort int) int {
	for {
		s := k.below(k.flag)
		if k.sorts[s] == sort || sort != number && k.sorts[s] != number && k.seldom(600) {
			return s
		}
	}
}

// layout says what the slots hold.
func (k *maker) layout() {
	sig := k.sigs[k.self]
	k.sorts = append(k.sorts, takes[:sig.Params]...)
	k.sorts = append(k.sorts, catches[:sig.Caught]...)
	k.sorts = append(k.sorts, number, number, number, aPair, aPair, aPair, aNums, aRefs, aPipe, aPipes, aClosure)
	k.flag = len(k.sorts)
	k.blank = k.flag + 1
	k.args = k.flag + 2
	k.keep = k.args + len(takes)
	k.sorts = append(k.sorts, number, aPair)
	k.sorts = append(k.sorts, takes...)
	k.sorts = append(k.sorts, catches...)
	k.counts = len(k.sorts)
	k.sorts = append(k.sorts, number, number, number, number)
}

// make makes a new thing of a sort.
func (k *maker) make(slot int) {
	switch k.sorts[slot] {
	case aPair:
		k.emit(op.New, slot, pair)
	case aNums, aRefs:
		k.num(k.flag, int64(k.one(1, 2, 3, 4, 7, 12)))
		k.emit(op.Array, slot, k.one(nums, nums, nums, refs), k.flag)
		if k.sorts[slot] == aRefs {
			k.list[len(k.list)-1].B = refs
		}
	case aPipe, aPipes:
		k.num(k.flag, int64(k.one(0, 0, 0, 1, 2, 4)))
		k.emit(op.Chan, slot, map[int]int{aPipe: pipe, aPipes: pipes}[k.sorts[slot]], k.flag)
	case aClosure:
		k.closure(slot)
	default:
		k.num(slot, int64(k.below(9)))
	}
}

// sure makes a new thing where a slot holds nothing.
func (k *maker) sure(slot int) {
	if k.seldom(60) {
		return
	}
	k.emit(op.Nil, k.blank)
	k.emit(op.Same, k.flag, slot, k.blank)
	k.emit(op.Not, k.flag, k.flag)
	at := len(k.list)
	k.emit(op.If, k.flag)
	k.make(slot)
	k.list[at].B = len(k.list)
}

// later is a function that comes behind this one; seldom any.
func (k *maker) later(fits func(f code.Func) bool) (int, bool) {
	from := k.self + 1
	if k.seldom(12) {
		from = 0
	}
	var list []int
	for n := from; n < len(k.sigs); n++ {
		if fits(k.sigs[n]) {
			list = append(list, n)
		}
	}
	if len(list) == 0 {
		return 0, false
	}
	return list[k.below(len(list))], true
}

func (k *maker) closure(slot int) {
	n, ok := k.later(func(f code.Func) bool { return true })
	if !ok {
		k.emit(op.Nil, slot)
		return
	}
	for at, sort := range catches[:k.sigs[n].Caught] {
		k.emit(op.Move, k.keep+at, k.slot(sort))
	}
	k.emit(op.Closure, slot, n, k.keep)
}

// arguments lays so many in their slots.
func (k *maker) arguments(count int) {
	for at, sort := range takes[:count] {
		k.emit(op.Move, k.args+at, k.slot(sort))
	}
}

// call calls a function, or begins a goroutine with it.
func (k *maker) call() {
	isGo := k.seldom(3)
	n, ok := k.later(func(f code.Func) bool { return f.Caught == 0 && (!isGo || f.Result == 0) })
	if !ok {
		return
	}
	f := k.sigs[n]
	k.arguments(f.Params)
	if isGo {
		k.emit(op.Go, n, k.args)
		return
	}
	k.emit(op.Call, k.answer(f.Result), n, k.args)
}

// answer is a slot for what a function answers.
func (k *maker) answer(result int) int {
	switch {
	case result == 0 || k.seldom(4):
		return op.None
	case result == 1:
		return k.slot(number)
	}
	return k.slot(aPair)
}

// callClosure calls one, or begins a goroutine with it: one that was just made, as another may be of any function.
func (k *maker) callClosure() {
	slot := k.slot(aClosure)
	if k.seldom(25) {
		k.arguments(k.below(3))
		k.emit(op.Callc, op.None, slot, k.args, k.below(3))
		return
	}
	k.closure(slot)
	made := k.list[len(k.list)-1]
	if made.Op != op.Closure {
		return
	}
	f := k.sigs[made.B]
	k.arguments(f.Params)
	if f.Result == 0 && k.seldom(2) {
		k.emit(op.Goc, slot, k.args, f.Params)
		return
	}
	k.emit(op.Callc, k.answer(f.Result), slot, k.args, f.Params)
}

// objects does something with a pair.
func (k *maker) objects() {
	slot := k.slot(aPair)
	switch k.below(6) {
	case 0:
		k.make(slot)
	case 1:
		k.sure(slot)
		k.emit(op.Set, slot, 0, k.slot(number))
	case 2:
		k.sure(slot)
		k.emit(op.Set, slot, 1, k.slot(aPair))
	case 3:
		// One that was just made gets its fields: these writes may be spared their barriers.
		k.make(slot)
		next := k.slot(aPair)
		k.make(next)
		k.emit(op.Set, slot, 1, next)
		k.emit(op.Set, slot, 0, k.slot(number))
	case 4:
		k.sure(slot)
		k.emit(op.Get, k.slot(number), slot, 0)
	default:
		k.sure(slot)
		k.emit(op.Get, k.slot(aPair), slot, 1)
	}
}

// arrays does something with an array.
func (k *maker) arrays() {
	sort := k.one(aNums, aRefs)
	slot, element := k.slot(sort), k.slot(map[int]int{aNums: number, aRefs: aPair}[sort])
	if k.seldom(4) {
		k.make(slot)
	}
	k.sure(slot)
	if k.seldom(4) {
		k.emit(op.Len, k.slot(number), slot)
	}
	// A square is not below 0: so this is the place of one of its elements.
	at := k.args
	k.emit(op.Len, k.flag, slot)
	k.emit(op.Mod, at, k.slot(number), k.flag)
	k.emit(op.Mul, at, at, at)
	k.emit(op.Mod, at, at, k.flag)
	if k.seldom(40) {
		at = k.slot(number)
	}
	if k.seldom(2) {
		k.emit(op.Put, slot, at, element)
	} else {
		k.emit(op.At, element, slot, at)
	}
}

// numbers reckons, and tells.
func (k *maker) numbers() {
	a, b, c := k.slot(number), k.slot(number), k.slot(number)
	switch o := k.one(op.Const, op.Const, op.Not, op.Print, op.Print, op.Same, op.Add, op.Sub, op.Mul, op.Div, op.Mod, op.And, op.Or, op.Xor, op.Shl, op.Shr, op.Lt, op.Le, op.Eq); o {
	case op.Const:
		k.emit(op.Const, a, k.below(len(consts())))
	case op.Not:
		k.emit(o, a, b)
	case op.Print:
		k.emit(o, a)
	case op.Same:
		k.emit(o, a, k.slot(aPair), k.slot(aPair))
	case op.Div, op.Mod:
		if !k.seldom(6) {
			k.num(c, int64(k.one(-3, 2, 5, 64)))
		}
		k.emit(o, a, b, c)
	default:
		k.emit(o, a, b, c)
	}
}

// globals loads or stores one.
func (k *maker) globals() {
	g := k.one(globalNum, globalRef, globalRef, globalRef2, globalNum2)
	sort := map[int]int{globalNum: number, globalRef: aPair, globalRef2: aPipes, globalNum2: number}[g]
	if k.seldom(2) {
		k.emit(op.Load, k.slot(sort), g)
	} else {
		k.emit(op.Store, g, k.slot(sort))
	}
}

// channels sends, receives or closes.
func (k *maker) channels() {
	sort := k.one(aPipe, aPipes)
	ch, val := k.slot(sort), k.slot(map[int]int{aPipe: number, aPipes: aPair}[sort])
	if k.seldom(25) {
		k.make(ch)
	}
	k.sure(ch)
	switch k.below(9) {
	case 0:
		if k.seldom(3) {
			k.emit(op.Close, ch)
		}
	case 1, 2, 3, 4:
		k.emit(op.Send, ch, val)
	default:
		k.emit(op.Recv, k.one(val, val, val, op.None), ch, k.one(op.None, k.flag, k.slot(number)))
	}
}

// choice is a select whose cases all go on behind it, or by a print.
func (k *maker) choice() {
	var cases []code.Case
	for range 1 + k.below(4) {
		sort := k.one(aPipe, aPipes)
		ch, val := k.slot(sort), k.slot(map[int]int{aPipe: number, aPipes: aPair}[sort])
		if k.seldom(2) {
			cases = append(cases, puts(ch, val, 0))
		} else {
			cases = append(cases, gets(ch, k.one(val, val, op.None), 0))
		}
	}
	if !k.seldom(3) {
		cases = slices.Insert(cases, k.below(len(cases)+1), other(0))
	}
	k.emit(op.Select, len(k.m.Cases), len(cases))
	at := len(k.list)
	k.emit(op.Print, k.slot(number))
	for n := range cases {
		cases[n].Target = at + k.below(2)
	}
	k.m.Cases = append(k.m.Cases, cases...)
}

// loop does a block a few times.
func (k *maker) loop() {
	if k.depth == 2 {
		return
	}
	count, one := k.counts+2*k.depth, k.counts+2*k.depth+1
	k.depth++
	k.num(count, int64(k.one(1, 2, 3, 5, 9)))
	at := len(k.list)
	k.emit(op.Poll)
	k.block(1 + k.below(6))
	k.num(one, 1)
	k.emit(op.Sub, count, count, one)
	k.emit(op.If, count, at)
	k.depth--
}

// skip does a block, or not.
func (k *maker) skip() {
	at := len(k.list)
	k.emit(op.If, k.slot(number))
	k.block(k.below(3))
	k.list[at].B = len(k.list)
	if k.seldom(3) {
		k.emit(op.Jump, len(k.list)+1)
	}
}

func (k *maker) block(many int) {
	for range many {
		switch k.below(20) {
		case 0, 1, 2, 3:
			k.objects()
		case 4, 5:
			k.arrays()
		case 6:
			k.numbers()
		case 7, 8:
			k.globals()
		case 9, 10, 11, 12:
			k.channels()
		case 13:
			k.choice()
		case 14:
			k.loop()
		case 15:
			k.skip()
		case 16, 17:
			k.call()
		case 18:
			k.callClosure()
		default:
			k.odds()
		}
	}
}

// odds are what is left.
func (k *maker) odds() {
	sort := k.one(number, aPair, aPair, aPipe, aPipes)
	switch k.below(40) {
	case 0:
		k.emit(op.Nil, k.slot(aPair))
	case 1:
		k.emit(op.Trap, 1+k.below(6))
	case 2:
		k.num(k.flag, int64(k.one(-1, 60, 64, 0, 59)))
		k.emit(op.Array, k.slot(aNums), nums, k.flag)
		k.emit(op.Chan, k.slot(aPipe), pipe, k.flag)
	default:
		k.emit(op.Move, k.slot(sort), k.slot(sort))
	}
}

// first lets the slots hold something, most of them.
func (k *maker) first() {
	handed := k.sigs[k.self].Params + k.sigs[k.self].Caught
	for slot := handed; slot < k.flag; slot++ {
		// Channels are those that others know, as a rule.
		at := slices.Index(k.sorts[:handed], k.sorts[slot])
		isChannel := k.sorts[slot] == aPipe || k.sorts[slot] == aPipes
		switch {
		case isChannel && at >= 0 && !k.seldom(9):
			k.emit(op.Move, slot, at)
		case k.self != 0 && k.sorts[slot] == aPipes && !k.seldom(9):
			k.emit(op.Load, slot, globalRef2)
		case k.self == 0 || !k.seldom(3):
			k.make(slot)
		}
	}
}

// servers begins goroutines that talk to whoever wants to, on and on.
func (k *maker) servers() {
	k.emit(op.Store, globalRef2, k.slot(aPipes))
	for range k.one(0, 1, 2, 3) {
		k.arguments(len(takes))
		k.emit(op.Go, 1, k.args)
	}
}

// serve is the body of a server: a select of all that may be done with the channels that it was handed.
func (k *maker) serve() {
	k.emit(op.Poll)
	ref := k.slot(aPair)
	cases := []code.Case{gets(2, 0, 0), puts(2, 0, 0), gets(3, ref, 0), puts(3, ref, 0)}
	for range k.below(3) {
		cases = slices.Delete(cases, 0, 1)
		cases = append(cases, cases[0])
	}
	at, from := len(k.list), len(k.m.Cases)
	k.emit(op.Select, from, len(cases))
	k.m.Cases = append(k.m.Cases, cases...)
	for n := range cases {
		k.m.Cases[from+n].Target = len(k.list)
		k.block(k.below(2))
	}
	k.emit(op.Jump, at-1)
}

func (k *maker) function() code.Func {
	k.layout()
	k.first()
	switch k.self {
	case 0:
		k.servers()
	case 1:
		k.serve()
	}
	k.block(3 + k.below(12))
	switch k.sigs[k.self].Result {
	case 0:
		k.emit(op.Return, op.None)
	case 1:
		k.emit(op.Return, k.slot(number))
	default:
		// A slot of another sort holds an address, too.
		k.emit(op.Return, k.slot(aPair))
	}
	f := k.sigs[k.self]
	f.Slots, f.Code = len(k.sorts), k.list
	for _, sort := range k.sorts {
		f.Kinds = append(f.Kinds, sort != number)
	}
	return f
}

// module is one that may be run.
func (d *dice) module() code.Module {
	m := code.Module{Shapes: shapes(), Globals: globals(), Consts: consts()}
	sigs := []code.Func{{}, {Params: len(takes)}}
	for range 2 + d.below(4) {
		sigs = append(sigs, code.Func{Params: d.below(len(takes) + 1), Caught: d.one(0, 0, d.below(len(catches)+1)), Result: d.one(0, 0, 1, 2)})
	}
	for n := range sigs {
		k := &maker{dice: d, m: &m, sigs: sigs, self: n}
		m.Funcs = append(m.Funcs, k.function())
	}
	return d.spared(mapped(m))
}

// spared lets most writes do without a barrier that may.
func (d *dice) spared(m code.Module) code.Module {
	for n, f := range m.Funcs {
		var list []int
		for pc, i := range f.Code {
			if (i.Op == op.Set || i.Op == op.Put) && fresh.Spare(m, f, pc) && !d.seldom(5) {
				list = append(list, pc)
			}
		}
		for _, pc := range list {
			m.Funcs[n].Code[pc].Op++
		}
	}
	return m
}
