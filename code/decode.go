package code

import (
	"bytes"

	"gantline/api"
	"gantline/bits"
	"gantline/head"
)

// How many bytes one takes at least: one for each number and each list in it.
const (
	shapeBytes = 3
	caseBytes  = 4
	instrBytes = 5
	funcBytes  = 7
)

// Decode reads it.
func Decode(b []byte) (Module, api.Errno) {
	rest, ok := bytes.CutPrefix(b, []byte(first))
	if !ok {
		return Module{}, api.EFORM
	}
	r := &reader{rest: rest}
	m := r.module()
	if r.bad || len(r.rest) > 0 {
		return Module{}, api.EFORM
	}
	return m, api.OK
}

// reader reads a module's bytes from the first one on. Numbers have one form alone (bits' Take), and so have bools and lists: what it reads to the end without a fault is what Encode makes.
type reader struct {
	rest []byte
	bad  bool // a fault was found: all that is read from then on is nothing
}

func (r *reader) fail() { r.rest, r.bad = nil, true }

func (r *reader) number() uint64 {
	u, n := bits.Take(r.rest)
	if n == 0 {
		r.fail()
		return 0
	}
	r.rest = r.rest[n:]
	return u
}

func (r *reader) signed() int64 { return bits.Zag(r.number()) }

func (r *reader) integer() int { return int(r.signed()) }

func (r *reader) truth() bool {
	u := r.number()
	if u > 1 {
		r.fail()
	}
	return u == 1
}

func (r *reader) shape() head.Shape {
	return head.Shape{Kind: r.integer(), Fields: r.integer(), Map: r.number()}
}

func (r *reader) choice() Case {
	return Case{Kind: r.integer(), Chan: r.integer(), Val: r.integer(), Target: r.integer()}
}

func (r *reader) instr() Instr {
	return Instr{Op: r.integer(), A: r.integer(), B: r.integer(), C: r.integer(), D: r.integer()}
}

func (r *reader) function() Func {
	return Func{
		Params: r.integer(),
		Caught: r.integer(),
		Slots:  r.integer(),
		Result: r.integer(),
		Kinds:  readList(r, 1, (*reader).truth),
		Code:   readList(r, instrBytes, (*reader).instr),
		Maps:   readList(r, 1, (*reader).number),
	}
}

func (r *reader) module() Module {
	return Module{
		Shapes:  readList(r, shapeBytes, (*reader).shape),
		Globals: readList(r, 1, (*reader).truth),
		Consts:  readList(r, 1, (*reader).signed),
		Cases:   readList(r, caseBytes, (*reader).choice),
		Funcs:   readList(r, funcBytes, (*reader).function),
		Main:    r.integer(),
	}
}

// readList reads how many there are, and each, which takes so many bytes at least.
func readList[T any](r *reader, least int, each func(*reader) T) []T {
	n := r.number()
	// Ahead of taking memory: the count may be any.
	if n > uint64(len(r.rest)/least) {
		r.fail()
		return nil
	}
	list := make([]T, n)
	for k := range list {
		list[k] = each(r)
		if r.bad {
			return nil
		}
	}
	return list
}
