package code_test

import (
	"bytes"
	"math"
	"reflect"
	"runtime"
	"strconv"
	"testing"

	"gantline/api"
	"gantline/code"
	"gantline/head"
)

// fill is n times the byte c, and then rest.
func fill(n int, c byte, rest ...byte) []byte {
	return append(bytes.Repeat([]byte{c}, n), rest...)
}

// P9.2: written out by hand.
func TestEncode(t *testing.T) {
	for _, c := range []struct {
		m    code.Module
		want []byte
	}{
		{code.Module{}, []byte{0, 0, 0, 0, 0, 0}},
		{bare(), []byte{0, 0, 0, 0, 0, 0}},
		{code.Module{Main: 1}, []byte{0, 0, 0, 0, 0, 2}},
		{code.Module{Main: -65}, []byte{0, 0, 0, 0, 0, 129, 1}},
		{code.Module{Shapes: []head.Shape{{Kind: 1, Fields: 2, Map: 3}}}, []byte{1, 2, 4, 3, 0, 0, 0, 0, 0}},
		{code.Module{Globals: []bool{true, false}}, []byte{0, 2, 1, 0, 0, 0, 0, 0}},
		{code.Module{Consts: []int64{0, -1, 63, 64, -64, -65}}, []byte{0, 0, 6, 0, 1, 126, 128, 1, 127, 129, 1, 0, 0, 0}},
		{code.Module{Cases: []code.Case{{Kind: 1, Chan: 2, Val: 3, Target: 4}}}, []byte{0, 0, 0, 1, 2, 4, 6, 8, 0, 0}},
		{code.Module{Funcs: []code.Func{{Params: 1, Caught: 2, Slots: 3, Result: 4, Kinds: []bool{true}, Code: []code.Instr{{Op: 5, A: 6, B: 7, C: 8, D: 9}}, Maps: []uint64{127, 128}}}},
			[]byte{0, 0, 0, 0, 1, 2, 4, 6, 8, 1, 1, 1, 10, 12, 14, 16, 18, 2, 127, 128, 1, 0}},
		{code.Module{Funcs: []code.Func{{}, {Result: -1}}}, []byte{0, 0, 0, 0, 2, 0, 0, 0, 0, 0, 0, 0, 0, 0, 0, 1, 0, 0, 0, 0}},
		{code.Module{Consts: []int64{math.MinInt64}}, append([]byte{0, 0, 1}, fill(9, 255, 1, 0, 0, 0)...)},
		{code.Module{Consts: []int64{math.MaxInt64}}, append([]byte{0, 0, 1, 254}, fill(8, 255, 1, 0, 0, 0)...)},
		{code.Module{Shapes: []head.Shape{{Map: math.MaxUint64}}}, append([]byte{1, 0, 0}, fill(9, 255, 1, 0, 0, 0, 0, 0)...)},
		{code.Module{Globals: make([]bool, 127)}, append([]byte{0, 127}, fill(127+4, 0)...)},
		{code.Module{Globals: make([]bool, 128)}, append([]byte{0, 128, 1}, fill(128+4, 0)...)},
	} {
		want := append([]byte{71, 79, 76, 49}, c.want...)
		if got := code.Encode(c.m); !bytes.Equal(got, want) {
			t.Errorf("Encode(%v): %v, want %v", c.m, got, want)
		}
		if m, e := code.Decode(want); e != api.OK || !code.Same(m, c.m) || plain(m) != plain(c.m) {
			t.Errorf("Decode(%v): %v, %d, want %v", want, m, e, c.m)
		}
	}
}

// P9.2: against the plain one.
func TestEncodeModules(t *testing.T) {
	for k, m := range modules() {
		wantEncoded(t, "module "+strconv.Itoa(k), m)
	}
}

// P9.2: every number of a module at its edges, every bool, every list short and long.
func TestEncodeVaried(t *testing.T) {
	n := 0
	varied(func(where string, m code.Module) {
		wantEncoded(t, where, m)
		n++
	})
	if n < 1000 {
		t.Errorf("only %d modules were tried", n)
	}
}

// P9.2: lists of lists, all of them long.
func TestEncodeLong(t *testing.T) {
	for _, n := range []int{127, 128, 129} {
		m := full()
		m.Funcs = nil
		for k := range n {
			f := code.Func{Params: k, Kinds: make([]bool, n), Code: make([]code.Instr, n), Maps: make([]uint64, n)}
			f.Kinds[k], f.Code[k].D, f.Maps[k] = true, -k, 1<<63|uint64(k)
			m.Funcs = append(m.Funcs, f)
		}
		wantEncoded(t, strconv.Itoa(n)+" functions", m)
	}
}

// taken tells how many bytes of memory a call takes.
func taken(call func()) uint64 {
	var before, behind runtime.MemStats
	runtime.ReadMemStats(&before)
	call()
	runtime.ReadMemStats(&behind)
	return behind.TotalAlloc - before.TotalAlloc
}

// A module at the bounds of chapter 12 is made bytes and read with memory for each number, not for each number times all that is written.
func TestBytesOfGreatModule(t *testing.T) {
	m := code.Module{Consts: make([]int64, 4096), Funcs: make([]code.Func, 128)}
	for k := range m.Funcs {
		m.Funcs[k] = code.Func{Slots: 64, Kinds: make([]bool, 64), Code: make([]code.Instr, 512), Maps: make([]uint64, 512)}
	}
	var b []byte
	numbers := uint64(len(piecesOf(m)))
	if n := taken(func() { b = code.Encode(m) }); n > 200*numbers {
		t.Errorf("Encode of %d numbers took %d bytes", numbers, n)
	}
	if string(b) != plain(m) {
		t.Errorf("Encode of %d numbers is not the plain one", numbers)
	}
	e := api.EFORM
	if n := taken(func() { _, e = code.Decode(b) }); n > 200*numbers || e != api.OK {
		t.Errorf("Decode of %d numbers took %d bytes: %d", numbers, n, e)
	}
}

// roomy lays each list of full into a longer one, and tells that longer one of each.
func roomy() (code.Module, []reflect.Value) {
	m := full()
	var wholes []reflect.Value
	visit(&m, func(_ string, v reflect.Value) {
		if v.Kind() != reflect.Slice {
			return
		}
		n := v.Len()
		whole := reflect.MakeSlice(v.Type(), n+20, n+20)
		reflect.Copy(whole, v)
		for k := n; k < whole.Len(); k++ {
			whole.Index(k).Set(other(v.Type().Elem()))
		}
		wholes = append(wholes, whole)
		v.Set(whole.Slice(0, n))
	})
	return m, wholes
}

// other is a value that full does not have.
func other(t reflect.Type) reflect.Value {
	v := reflect.New(t).Elem()
	switch t.Kind() {
	case reflect.Bool:
		v.SetBool(true)
	case reflect.Int, reflect.Int64:
		v.SetInt(987654321)
	case reflect.Uint64:
		v.SetUint(987654321)
	case reflect.Struct:
		for k := range v.NumField() {
			v.Field(k).Set(other(t.Field(k).Type))
		}
	}
	return v
}

// R4: what is handed in stays as it is, spare room too; what is answered is other memory.
func TestEncodeLeavesItsModule(t *testing.T) {
	m, wholes := roomy()
	was, unchanged := roomy()
	b := code.Encode(m)
	again := code.Encode(m)
	room := b[:cap(b)]
	for k := range room {
		room[k] ^= 255
	}
	if !code.Same(m, was) || plain(m) != plain(was) {
		t.Errorf("Encode changed its module, or shares it")
	}
	for k := range wholes {
		if !reflect.DeepEqual(wholes[k].Interface(), unchanged[k].Interface()) {
			t.Errorf("Encode changed list %d, or shares it: %v", k, wholes[k])
		}
	}
	if string(again) != plain(was) {
		t.Errorf("two answers of Encode share memory")
	}
}

// R4: and the bytes do not follow the module.
func TestEncodeKeepsNothing(t *testing.T) {
	m := full()
	b := code.Encode(m)
	visit(&m, func(_ string, v reflect.Value) {
		if v.Kind() != reflect.Slice {
			v.Set(other(v.Type()))
		}
	})
	if string(b) != plain(full()) {
		t.Errorf("Encode's answer changed with the module")
	}
}
