package code_test

import (
	"math"
	"reflect"
	"strconv"
	"testing"

	"gantline/api"
	"gantline/code"
	"gantline/head"
)

// What a piece of a module's bytes is.
const (
	signed = iota
	unsigned
	truth
	count
)

// piece is one number of a module's bytes.
type piece struct {
	sort int
	u    uint64
}

// pieces gathers a module's numbers in the chapter's order.
type pieces []piece

func (p *pieces) add(sort int, u uint64) { *p = append(*p, piece{sort, u}) }

func (p *pieces) count(n int) { p.add(count, uint64(n)) }

func (p *pieces) unsigned(u uint64) { p.add(unsigned, u) }

func (p *pieces) signed(list ...int64) {
	for _, v := range list {
		if v >= 0 {
			p.add(signed, uint64(v)*2)
		} else {
			p.add(signed, uint64(-(v+1))*2+1)
		}
	}
}

func (p *pieces) truths(list []bool) {
	p.count(len(list))
	for _, yes := range list {
		if yes {
			p.add(truth, 1)
		} else {
			p.add(truth, 0)
		}
	}
}

func (p *pieces) function(f code.Func) {
	p.signed(int64(f.Params), int64(f.Caught), int64(f.Slots), int64(f.Result))
	p.truths(f.Kinds)
	p.count(len(f.Code))
	for _, i := range f.Code {
		p.signed(int64(i.Op), int64(i.A), int64(i.B), int64(i.C), int64(i.D))
	}
	p.count(len(f.Maps))
	for _, u := range f.Maps {
		p.unsigned(u)
	}
}

// piecesOf are a module's numbers, as P9.2 tells them.
func piecesOf(m code.Module) pieces {
	var p pieces
	p.count(len(m.Shapes))
	for _, s := range m.Shapes {
		p.signed(int64(s.Kind), int64(s.Fields))
		p.unsigned(s.Map)
	}
	p.truths(m.Globals)
	p.count(len(m.Consts))
	p.signed(m.Consts...)
	p.count(len(m.Cases))
	for _, c := range m.Cases {
		p.signed(int64(c.Kind), int64(c.Chan), int64(c.Val), int64(c.Target))
	}
	p.count(len(m.Funcs))
	for _, f := range m.Funcs {
		p.function(f)
	}
	p.signed(int64(m.Main))
	return p
}

// seven is a number in bytes of seven bits, the lowest first, without bits' help.
func seven(u uint64) []byte {
	var b []byte
	for u >= 128 {
		b = append(b, byte(u%128+128))
		u /= 128
	}
	return append(b, byte(u))
}

// join makes pieces bytes, with the first four ahead.
func (p pieces) join() []byte {
	b := []byte{71, 79, 76, 49}
	for _, x := range p {
		b = append(b, seven(x.u)...)
	}
	return b
}

// plain is what Encode ought to make. It tells all of a module, so that modules whose plain bytes are the same are the same.
func plain(m code.Module) string { return string(piecesOf(m).join()) }

// readable tells whether some module has just these bytes, without Decode's help.
func readable(b []byte) bool {
	if len(b) < 4 || string(b[:4]) != "GOL1" {
		return false
	}
	numbers, ok := cut(b[4:])
	if !ok {
		return false
	}
	take := func() uint64 {
		if len(numbers) == 0 {
			ok = false
			return 0
		}
		u := numbers[0]
		numbers = numbers[1:]
		return u
	}
	list := func(one func()) {
		for n := take(); n > 0 && ok; n-- {
			one()
		}
	}
	some := func(n int) func() {
		return func() {
			for range n {
				take()
			}
		}
	}
	flag := func() { ok = take() < 2 && ok }
	list(some(3))
	list(flag)
	list(some(1))
	list(some(4))
	list(func() {
		some(4)()
		list(flag)
		list(some(5))
		list(some(1))
	})
	take()
	return ok && len(numbers) == 0
}

// cut cuts bytes into numbers; false, if one is not as it is written.
func cut(b []byte) ([]uint64, bool) {
	var numbers []uint64
	for len(b) > 0 {
		u, scale, n := uint64(0), uint64(1), 0
		for n < len(b) && n < 10 {
			u += uint64(b[n]%128) * scale
			scale *= 128
			n++
			if b[n-1] < 128 {
				break
			}
		}
		if string(seven(u)) != string(b[:n]) {
			return nil, false
		}
		numbers, b = append(numbers, u), b[n:]
	}
	return numbers, true
}

// full has each list filled, and no two of its numbers beside each other alike.
func full() code.Module {
	return code.Module{
		Shapes:  []head.Shape{{Kind: 0, Fields: 3, Map: 5}, {Kind: 1, Fields: 0, Map: 1}, {Kind: -2, Fields: 63, Map: 1 << 63}},
		Globals: []bool{true, false, true, true},
		Consts:  []int64{0, -1, 63, 64, -64, -65, math.MaxInt64, math.MinInt64},
		Cases:   []code.Case{{Kind: 0, Chan: 1, Val: -1, Target: 200}, {Kind: 1, Chan: 2, Val: 3, Target: 4}, {Kind: 2, Target: 9}},
		Funcs: []code.Func{
			{Params: 1, Caught: 2, Slots: 4, Result: 0, Kinds: []bool{true, false, false, true}, Code: []code.Instr{{Op: 3, A: 1, B: 2, C: 3}, {Op: 21, A: -1, B: 5, C: 6, D: 7}, {Op: 22, A: -1}}, Maps: []uint64{0, 9, 300}},
			{},
			{Params: 64, Caught: -65, Slots: math.MaxInt, Result: math.MinInt, Kinds: []bool{false}, Code: []code.Instr{{Op: 43}}, Maps: []uint64{math.MaxUint64}},
			{Result: 2, Maps: []uint64{127, 128}},
		},
		Main: 3,
	}
}

// bare has each list empty, but none nil.
func bare() code.Module {
	return code.Module{Shapes: []head.Shape{}, Globals: []bool{}, Consts: []int64{}, Cases: []code.Case{}, Funcs: []code.Func{}}
}

// modules are all that the tests of bytes go through that are not made of full by a change.
func modules() []code.Module {
	return []code.Module{
		{}, bare(), full(),
		{Main: -1}, {Main: 64},
		{Shapes: []head.Shape{{}}}, {Globals: []bool{false}}, {Consts: []int64{0}}, {Cases: []code.Case{{}}},
		{Funcs: []code.Func{{}}}, {Funcs: []code.Func{{Kinds: []bool{}, Code: []code.Instr{}, Maps: []uint64{}}}},
		{Funcs: []code.Func{{Kinds: []bool{true}}}}, {Funcs: []code.Func{{Code: []code.Instr{{}}}}}, {Funcs: []code.Func{{Maps: []uint64{0}}}},
	}
}

// visit goes to each number, bool and list in a module, however deep.
func visit(m *code.Module, to func(path string, v reflect.Value)) {
	visitValue("", reflect.ValueOf(m).Elem(), to)
}

func visitValue(path string, v reflect.Value, to func(path string, v reflect.Value)) {
	switch v.Kind() {
	case reflect.Struct:
		for k := range v.NumField() {
			visitValue(path+"."+v.Type().Field(k).Name, v.Field(k), to)
		}
	case reflect.Slice:
		for k := range v.Len() {
			visitValue(path+"["+strconv.Itoa(k)+"]", v.Index(k), to)
		}
		to(path, v)
	default:
		to(path, v)
	}
}

// places are the numbers, bools and lists of full, in visit's order.
func places() int {
	m, n := full(), 0
	visit(&m, func(string, reflect.Value) { n++ })
	return n
}

// at tells full with the place n handed to change, and that place's path.
func at(n int, change func(v reflect.Value)) (code.Module, string) {
	m, k, where := full(), 0, ""
	visit(&m, func(path string, v reflect.Value) {
		if k == n {
			where = path
			change(v)
		}
		k++
	})
	return m, where
}

// varied calls with full as it becomes with each number at its edges, each bool turned, and each list of many lengths.
func varied(to func(where string, m code.Module)) {
	for n := range places() {
		var choices []func(reflect.Value)
		at(n, func(v reflect.Value) { choices = variants(v) })
		for k, change := range choices {
			m, path := at(n, change)
			to(path+" changed, "+strconv.Itoa(k), m)
		}
	}
}

// variants are the ways in which varied changes a place.
func variants(v reflect.Value) []func(reflect.Value) {
	var list []func(reflect.Value)
	switch v.Kind() {
	case reflect.Int, reflect.Int64:
		for _, x := range []int64{0, 1, -1, 63, 64, -64, -65, 8191, 8192, -8192, -8193, math.MaxInt64, math.MinInt64} {
			list = append(list, func(v reflect.Value) { v.SetInt(x) })
		}
	case reflect.Uint64:
		for _, x := range []uint64{0, 1, 127, 128, 16383, 16384, 1<<63 - 1, 1 << 63, math.MaxUint64} {
			list = append(list, func(v reflect.Value) { v.SetUint(x) })
		}
	case reflect.Bool:
		list = append(list, func(v reflect.Value) { v.SetBool(!v.Bool()) })
	case reflect.Slice:
		for _, x := range []int{0, 1, 2, 126, 127, 128, 129, 300} {
			list = append(list, func(v reflect.Value) {
				longer := reflect.MakeSlice(v.Type(), x, x)
				reflect.Copy(longer, v)
				v.Set(longer)
			})
		}
	}
	return list
}

// wantEncoded wants Encode to make just the plain bytes, and Decode the module of them.
func wantEncoded(t *testing.T, where string, m code.Module) {
	t.Helper()
	want := plain(m)
	b := code.Encode(m)
	if string(b) != want {
		t.Fatalf("%s: Encode: %v, want %v", where, b, []byte(want))
	}
	n, e := code.Decode(b)
	if e != api.OK || plain(n) != want {
		t.Fatalf("%s: Decode of what Encode makes: %v, %d", where, n, e)
	}
	if !code.Same(m, n) || !code.Same(n, m) {
		t.Fatalf("%s: Decode of what Encode makes is not the Same", where)
	}
}

// wantRefused wants Decode to answer EFORM, and nothing beside it.
func wantRefused(t *testing.T, where string, b []byte) {
	t.Helper()
	m, e := code.Decode(b)
	if e != api.EFORM {
		t.Fatalf("%s: Decode(%v): %d", where, b, e)
	}
	if !reflect.ValueOf(m).IsZero() {
		t.Fatalf("%s: Decode(%v): EFORM and %v", where, b, m)
	}
}
