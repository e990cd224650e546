package code

import (
	"gantline/bits"
	"gantline/head"
)

// first is what every module's bytes begin with: 71, 79, 76, 49.
const first = "GOL1"

// Encode makes a module bytes.
func Encode(m Module) []byte {
	w := &writer{out: []byte(first)}
	writeList(w, m.Shapes, (*writer).shape)
	writeList(w, m.Globals, (*writer).truth)
	writeList(w, m.Consts, (*writer).signed)
	writeList(w, m.Cases, (*writer).choice)
	writeList(w, m.Funcs, (*writer).function)
	w.signed(int64(m.Main))
	return w.out
}

// writer gathers a module's bytes.
type writer struct{ out []byte }

func (w *writer) number(u uint64) {
	// Put copies what it is handed: all that is written, for each number, if it were handed that.
	w.out = append(w.out, bits.Put(nil, u)...)
}

func (w *writer) signed(v int64) { w.number(bits.Zig(v)) }

func (w *writer) truth(yes bool) {
	if yes {
		w.number(1)
	} else {
		w.number(0)
	}
}

func (w *writer) ints(list ...int) {
	for _, v := range list {
		w.signed(int64(v))
	}
}

func (w *writer) shape(s head.Shape) {
	w.ints(s.Kind, s.Fields)
	w.number(s.Map)
}

func (w *writer) choice(c Case) { w.ints(c.Kind, c.Chan, c.Val, c.Target) }

func (w *writer) instr(i Instr) { w.ints(i.Op, i.A, i.B, i.C, i.D) }

func (w *writer) function(f Func) {
	w.ints(f.Params, f.Caught, f.Slots, f.Result)
	writeList(w, f.Kinds, (*writer).truth)
	writeList(w, f.Code, (*writer).instr)
	writeList(w, f.Maps, (*writer).number)
}

// writeList writes how many there are, and each.
func writeList[T any](w *writer, list []T, each func(*writer, T)) {
	w.number(uint64(len(list)))
	for _, v := range list {
		each(w, v)
	}
}
