package code_test

import (
	"reflect"
	"testing"

	"gantline/code"
	"gantline/head"
)

// wantSame wants Same to say so, whichever comes first.
func wantSame(t *testing.T, where string, m, n code.Module, want bool) {
	t.Helper()
	if code.Same(m, n) != want || code.Same(n, m) != want {
		t.Errorf("%s: Same: %t, %t, want %t", where, code.Same(m, n), code.Same(n, m), want)
	}
}

// P9.2: each with each.
func TestSame(t *testing.T) {
	for i, m := range modules() {
		for k, n := range modules() {
			want := plain(m) == plain(n)
			if i == k && !want {
				t.Errorf("module %d is not the same as itself", i)
			}
			wantSame(t, "modules", m, n, want)
		}
	}
}

// P9.2: nil and empty are one, alone and among others.
func TestSameNilEmpty(t *testing.T) {
	wantSame(t, "no lists", code.Module{}, bare(), true)
	for n := range places() {
		none, path := at(n, func(v reflect.Value) {
			if v.Kind() == reflect.Slice {
				v.SetZero()
			}
		})
		empty, _ := at(n, func(v reflect.Value) {
			if v.Kind() == reflect.Slice {
				v.Set(reflect.MakeSlice(v.Type(), 0, 5))
			}
		})
		wantSame(t, path, none, empty, true)
		if string(code.Encode(none)) != string(code.Encode(empty)) {
			t.Errorf("%s: Encode of nil and of an empty list differ", path)
		}
	}
}

// P9.2: one number, one bool, one list's length, each in turn.
func TestSameOneChange(t *testing.T) {
	for n := range places() {
		for _, change := range changes() {
			m, path := at(n, change)
			wantSame(t, path, m, full(), plain(m) == plain(full()))
		}
		m, path := at(n, changes()[0])
		wantSame(t, path, m, full(), false)
	}
	varied(func(where string, m code.Module) {
		wantSame(t, where, m, full(), plain(m) == plain(full()))
	})
}

// changes are ways to change a place; the first changes every one.
func changes() []func(reflect.Value) {
	return []func(reflect.Value){
		func(v reflect.Value) {
			switch v.Kind() {
			case reflect.Int, reflect.Int64:
				v.SetInt(v.Int() ^ 1)
			case reflect.Uint64:
				v.SetUint(v.Uint() ^ 1)
			case reflect.Bool:
				v.SetBool(!v.Bool())
			case reflect.Slice:
				v.Set(reflect.Append(v, reflect.Zero(v.Type().Elem())))
			}
		},
		func(v reflect.Value) {
			switch v.Kind() {
			case reflect.Int, reflect.Int64:
				v.SetInt(v.Int() ^ -1<<63)
			case reflect.Uint64:
				v.SetUint(v.Uint() ^ 1<<63)
			case reflect.Slice:
				v.Set(v.Slice(0, max(v.Len()-1, 0)))
			}
		},
		func(v reflect.Value) {
			if v.Kind() == reflect.Slice {
				v.Set(v.Slice(min(1, v.Len()), v.Len()))
			}
		},
		func(v reflect.Value) {
			if v.Kind() == reflect.Slice && v.Len() > 1 {
				turned := reflect.MakeSlice(v.Type(), v.Len(), v.Len())
				for k := range v.Len() {
					turned.Index(v.Len() - 1 - k).Set(v.Index(k))
				}
				v.Set(turned)
			}
		},
	}
}

// P9.2: what lies behind a list in its spare room is none of it.
func TestSameSpareRoom(t *testing.T) {
	shapes := []head.Shape{{Kind: 1}, {Kind: 2}, {Kind: 3}}
	wantSame(t, "one shape of three", code.Module{Shapes: shapes[:1]}, code.Module{Shapes: []head.Shape{{Kind: 1}}}, true)
	wantSame(t, "one shape and two", code.Module{Shapes: shapes[:1]}, code.Module{Shapes: shapes[:2]}, false)
	m, _ := roomy()
	wantSame(t, "spare room", m, full(), true)
}

// R4
func TestSameLeavesItsModules(t *testing.T) {
	m, mine := roomy()
	n, yours := roomy()
	n.Main++
	code.Same(m, n)
	code.Same(m, m)
	if plain(m) != plain(full()) || n.Main != full().Main+1 {
		t.Errorf("Same changed a module")
	}
	for k := range mine {
		if !reflect.DeepEqual(mine[k].Interface(), yours[k].Interface()) {
			t.Errorf("Same changed list %d", k)
		}
	}
}
