package fresh

import (
	mathbits "math/bits"

	"gantline/api"
	"gantline/code"
	"gantline/live"
	"gantline/op"
)

// all has every slot, or every field.
const all = ^uint64(0)

// known is what is known of the slots from 0 to 63: maps of those that are young and own, and of each slot a map of its fields that were written.
type known struct {
	young, own uint64
	written    [api.MaxSlots]uint64
}

// bit is a map of one slot or field; of one that is not from 0 to 63 it has nothing.
func bit(n int) uint64 {
	// Without its sign a number below 0 is a great one, and the bit of a great one is shifted out.
	return 1 << uint64(n)
}

func slotMap(slots []int) uint64 {
	set := uint64(0)
	for _, s := range slots {
		set |= bit(s)
	}
	return set
}

// states tells the first slots one by one.
func (k *known) states(count int) []State {
	list := make([]State, count)
	for s := range list {
		list[s] = State{Young: k.young&bit(s) != 0, Own: k.own&bit(s) != 0, Written: k.written[s]}
	}
	return list
}

// pass takes k over an instruction, from ahead of it to behind it. What a select does to slots its cases say: see graph.
func (k *known) pass(m code.Module, i code.Instr) {
	if code.Point(i.Op) {
		k.young = 0
	}
	switch i.Op {
	case op.New, op.Array, op.Chan:
		k.begin(i.A, true)
		k.own |= bit(i.A)
	case op.Closure:
		k.begin(i.A, true)
		k.handOut(slotMap(live.Reads(m, i)))
	case op.Move:
		k.begin(i.A, k.young&bit(i.B) != 0)
		k.handOut(bit(i.B))
	case op.Set, op.Setn, op.Put, op.Putn:
		k.write(i.A, fieldsOf(i))
		k.handOut(bit(i.C))
	case op.Send:
		// The channel that is sent to is handed to nobody.
		k.handOut(bit(i.B))
	case op.Store, op.Call, op.Callc, op.Return, op.Go, op.Goc:
		k.handOut(slotMap(live.Reads(m, i)))
		k.forget(slotMap(live.Writes(i)))
	default:
		k.forget(slotMap(live.Writes(i)))
	}
}

// begin lets a slot hold something else, of which nothing but this is known.
func (k *known) begin(slot int, young bool) {
	k.forget(bit(slot))
	if young {
		k.young |= bit(slot)
	}
}

func (k *known) handOut(slots uint64) { k.own &^= slots }

func (k *known) forget(slots uint64) {
	k.young &^= slots
	k.own &^= slots
	for rest := slots; rest != 0; rest &= rest - 1 {
		k.written[mathbits.TrailingZeros64(rest)] = 0
	}
}

func (k *known) write(slot int, fields uint64) {
	if bit(slot) != 0 {
		k.written[slot] |= fields
	}
}

// meet keeps what holds on another way too; it tells whether that is less than before.
func (k *known) meet(other *known) bool {
	before := *k
	k.young &= other.young
	k.own &= other.own
	for s, fields := range other.written {
		k.written[s] |= fields
	}
	return *k != before
}
