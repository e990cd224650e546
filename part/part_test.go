package part_test

import (
	"slices"
	"strings"
	"testing"

	"gantline/part"
)

const (
	types       = "int bool named list chan fn"
	expressions = "number true false nil name binary unary call index dot new make len recv lambda"
	statements  = "block let set if while return print close go send select do"
)

// row is a row of the table: the Kinds, what their Text is, the kids that each has, and those of which there may be any number behind them.
type row struct {
	kinds, text string
	kids        []string // of each the Kinds it may be
	more        string
}

func rows() []row {
	type list = []string
	return []row{
		{"program", "", nil, "struct global func"},
		{"struct", "name", nil, "field"},
		{"field global param", "name", list{types}, ""},
		{"func", "name", list{"params", types + " none", "block"}, ""},
		{"lambda", "", list{"params", types + " none", "block"}, ""},
		{"params", "", nil, "param"},
		{"none int bool true false", "", nil, ""},
		{"named name new", "name", nil, ""},
		{"number", "digits", nil, ""},
		{"list chan nil", "", list{types}, ""},
		{"fn", "", list{types + " none"}, types},
		{"block", "", nil, statements},
		{"let", "name", list{types, expressions}, ""},
		{"set send index", "", list{expressions, expressions}, ""},
		{"binary", "sign", list{expressions, expressions}, ""},
		{"if", "", list{expressions, "block", "block none"}, ""},
		{"while", "", list{expressions, "block"}, ""},
		{"return", "", list{expressions + " none"}, ""},
		{"print close do len recv", "", list{expressions}, ""},
		{"unary", "one sign", list{expressions}, ""},
		{"dot", "name", list{expressions}, ""},
		{"go", "", list{"call"}, ""},
		{"select", "", nil, "onrecv onsend default"},
		{"onrecv", "name", list{expressions, "block"}, ""},
		{"onsend", "", list{expressions, expressions, "block"}, ""},
		{"default", "", list{"block"}, ""},
		{"call", "", list{expressions}, expressions},
		{"make", "", list{types, expressions}, ""},
	}
}

// kinds are all that the table has.
func kinds() []string {
	var list []string
	for _, r := range rows() {
		list = append(list, strings.Fields(r.kinds)...)
	}
	return list
}

// others are such as it does not have.
func others() []string {
	return []string{"", "what", "Block", "block ", " int", "ints", "E", "type", "statement", "case", "else", "var", "string", "true false", "print\x00"}
}

func fits(kind string, kids ...string) bool {
	return part.Fits(kind, kids, func(kid string) string { return kid })
}

// each calls for each Kind of the table, with its row.
func each(call func(kind string, r row)) {
	for _, r := range rows() {
		for _, kind := range strings.Fields(r.kinds) {
			call(kind, r)
		}
	}
}

// first is one of the Kinds that each kid of a row may be, and so many of those behind.
func (r row) first(behind int) []string {
	var list []string
	for _, kid := range r.kids {
		list = append(list, strings.Fields(kid)[0])
	}
	for range behind {
		list = append(list, strings.Fields(r.more)[0])
	}
	return list
}

// The table has all its Kinds once.
func TestRows(t *testing.T) {
	list := kinds()
	slices.Sort(list)
	if len(list) != 44 || len(slices.Compact(list)) != 44 {
		t.Errorf("%d Kinds", len(list))
	}
}

// Fits: as many kids as the row has, no fewer and no more.
func TestHowManyFit(t *testing.T) {
	each(func(kind string, r row) {
		if !fits(kind, r.first(0)...) {
			t.Errorf("%s with %v does not fit", kind, r.first(0))
		}
		for fewer := range len(r.kids) {
			if fits(kind, r.first(0)[:fewer]...) {
				t.Errorf("%s with %d kids fits", kind, fewer)
			}
		}
		if r.more != "" {
			for _, behind := range []int{1, 2, 3, 100} {
				if !fits(kind, r.first(behind)...) {
					t.Errorf("%s with %d more does not fit", kind, behind)
				}
			}
			return
		}
		for _, more := range kinds() {
			if kids := append(r.first(0), more); fits(kind, kids...) {
				t.Errorf("%s with %v fits", kind, kids)
			}
		}
	})
}

// Fits: each kid is of a Kind that the row has in its place, and of no other.
func TestWhichFit(t *testing.T) {
	all := append(kinds(), others()...)
	each(func(kind string, r row) {
		kids, may := r.first(0), slices.Clone(r.kids)
		if r.more != "" {
			kids, may = r.first(3), append(may, r.more, r.more, r.more)
		}
		for at := range kids {
			for _, other := range all {
				list := slices.Clone(kids)
				list[at] = other
				if want := slices.Contains(strings.Fields(may[at]), other); fits(kind, list...) != want {
					t.Errorf("%s with %v: fits is %v", kind, list, !want)
				}
			}
		}
	})
}

// Fits: no node is of another Kind.
func TestOthersDoNotFit(t *testing.T) {
	for _, kind := range others() {
		for _, kids := range [][]string{nil, {"int"}, {"name"}, {"block"}, {"name", "name"}, {"params", "none", "block"}} {
			if fits(kind, kids...) {
				t.Errorf("%q with %v fits", kind, kids)
			}
		}
	}
}

// Fits: kids are of any type, and are not changed.
func TestKidsOfAnyType(t *testing.T) {
	kids := [][2]string{{"name", "x"}, {"number", "1"}}
	kindOf := func(kid [2]string) string { return kid[0] }
	if !part.Fits("binary", kids, kindOf) || part.Fits("block", kids, kindOf) || part.Fits("unary", kids, kindOf) || !part.Fits("unary", kids[:1], kindOf) {
		t.Error("kids that are pairs fit otherwise")
	}
	if !slices.Equal(kids, [][2]string{{"name", "x"}, {"number", "1"}}) {
		t.Errorf("kids are %v", kids)
	}
}

// Says: a name, digits, one of the signs, or nothing.
func TestSays(t *testing.T) {
	const binary, unary = "+ - * / % & | ^ << >> < <= > >= == != && ||", "- !"
	texts := append(strings.Fields(binary), "", "!", "x", "main", "x1", "0", "7", "0042", "4611686018427387904", "-1", "1 ", "1x", "1.0", "٣", "=", "=<", "~", "++", "+ ", "<<<", "!!", " ")
	each(func(kind string, r row) {
		for _, text := range texts {
			want := map[string]bool{
				"":         text == "",
				"name":     text != "",
				"digits":   text == "0" || text == "7" || text == "0042" || text == "4611686018427387904",
				"sign":     slices.Contains(strings.Fields(binary), text),
				"one sign": slices.Contains(strings.Fields(unary), text),
			}[r.text]
			if part.Says(kind, text) != want {
				t.Errorf("%s: Says(%q) is %v", kind, text, !want)
			}
		}
	})
}

// IsExpression: of what stands where the table has an E.
func TestIsExpression(t *testing.T) {
	for _, kind := range append(kinds(), others()...) {
		if want := slices.Contains(strings.Fields(expressions), kind); part.IsExpression(kind) != want {
			t.Errorf("IsExpression(%q) is %v", kind, !want)
		}
	}
}
