package check_test

import (
	"slices"
	"strings"
	"testing"

	"gantline/api"
	"gantline/check"
	"gantline/part"
	"gantline/tree"
)

// each calls for a tree's every node, as they stand.
func each(x *tree.Node, call func(*tree.Node)) {
	call(x)
	for i := range x.Kids {
		each(&x.Kids[i], call)
	}
}

// own is a tree in memory of its own.
func own(x tree.Node) tree.Node {
	x.Kids = slices.Clone(x.Kids)
	for i := range x.Kids {
		x.Kids[i] = own(x.Kids[i])
	}
	return x
}

// placed is a tree in memory of its own, each node of which stands at a place of its own.
func placed(x tree.Node, d *dice) tree.Node {
	x = own(x)
	var list []*tree.Node
	each(&x, func(y *tree.Node) { list = append(list, y) })
	for i := range list {
		other := d.below(len(list))
		list[i], list[other] = list[other], list[i]
	}
	for i, y := range list {
		y.At = 100 + i
	}
	return x
}

// wantReckoned wants a tree to have the fault that it has by the plain reckoning, and tells why it has one; nothing: it has none.
func wantReckoned(t *testing.T, p tree.Node) string {
	t.Helper()
	want, faulty := reckoned(p)
	at, e := check.Check(p)
	switch {
	case faulty && (at != want.at || e != api.ETYPE):
		t.Errorf("Check(%s): error %d at %d, want %d at %d: %s: %s", short(tree.Show(p)), e, at, api.ETYPE, want.at, want.why, short(where(p, want.at)))
	case !faulty && (at != 0 || e != api.OK):
		t.Errorf("Check(%s): error %d at %d, want none: %s", short(tree.Show(p)), e, at, short(where(p, at)))
	}
	return want.why
}

// where shows what stands at a place.
func where(p tree.Node, at int) string {
	text := ""
	each(&p, func(x *tree.Node) {
		if x.At == at {
			text = x.Kind + " " + tree.Show(*x)
		}
	})
	return text
}

// P22.1: many programs without a fault.
func TestAuthored(t *testing.T) {
	a := author{dice: 22}
	nodes, kinds := 0, map[string]int{}
	for seed := range 3000 {
		p := placed(a.program([]int{30, 100, 300}[seed%3]), &a.dice)
		if why := wantReckoned(t, p); why != "" {
			t.Errorf("%s: reckoned to have a fault: %s", short(tree.Show(p)), why)
		}
		nodes += tree.Size(p)
		each(&p, func(x *tree.Node) { kinds[x.Kind+" "+sign(x)]++ })
	}
	if nodes < 200000 || len(kinds) != 44-2+18+2 {
		t.Errorf("%d nodes, %d Kinds: %v", nodes, len(kinds), kinds)
	}
	for kind, times := range kinds {
		if times < 200 {
			t.Errorf("%s stands only %d times", kind, times)
		}
	}
}

func sign(x *tree.Node) string {
	if x.Kind == "binary" || x.Kind == "unary" {
		return x.Text
	}
	return ""
}

// twisted is a program in which something is changed, mostly in functions' blocks, so that it still is one, and the table has each part of it.
func (a *author) twisted(p tree.Node) tree.Node {
	for len(p.Kids) > 0 {
		x := own(p)
		var list, within []*tree.Node
		each(&x, func(y *tree.Node) { list = append(list, y) })
		for _, declared := range x.Kids {
			if declared.Kind == "func" {
				each(&declared.Kids[2], func(y *tree.Node) { within = append(within, y) })
			}
		}
		if len(within) == 0 || a.below(12) == 0 {
			within = list
		}
		a.change(within[a.below(len(within))], *list[a.below(len(list))])
		if x.Kind == "program" && tree.Size(x) < len(list)+100 && sound(x) && !tree.Same(x, p) {
			return x
		}
	}
	return p
}

func (a *author) change(x *tree.Node, y tree.Node) {
	switch a.below(10) {
	case 0, 1:
		x.Text = a.one(words)
	case 2:
		x.Text = a.one("+ - * / % & | ^ << >> < <= > >= == != && || !")
	case 3:
		*x = own(y)
	case 4:
		if len(x.Kids) > 0 {
			at := a.below(len(x.Kids))
			x.Kids = slices.Delete(slices.Clone(x.Kids), at, at+1)
		}
	case 5:
		x.Kids = slices.Insert(slices.Clone(x.Kids), a.below(len(x.Kids)+1), own(y))
	case 6:
		if len(x.Kids) > 0 {
			x.Kids = append(slices.Clone(x.Kids), own(x.Kids[a.below(len(x.Kids))]))
		}
	case 7:
		if len(x.Kids) > 1 {
			at, other := a.below(len(x.Kids)), a.below(len(x.Kids))
			x.Kids[at], x.Kids[other] = x.Kids[other], x.Kids[at]
		}
	case 8:
		*x = n(a.one("none int bool true false block"), "")
	case 9:
		x.Kind = a.one("list chan print close len recv unary do set send index binary new name named onrecv while if let")
	}
}

// sound tells whether the table has all parts of a tree.
func sound(x tree.Node) bool {
	kindOf := func(kid tree.Node) string { return kid.Kind }
	return part.Fits(x.Kind, x.Kids, kindOf) && part.Says(x.Kind, x.Text) && !slices.ContainsFunc(x.Kids, func(kid tree.Node) bool { return !sound(kid) })
}

// P22.1: many programs in which something was changed, against a plain reckoning; each reason for a fault is come to.
func TestTwisted(t *testing.T) {
	a := author{dice: 2222}
	reasons := map[string]int{}
	for seed := range 4000 {
		p := a.program([]int{20, 40, 120}[seed%3])
		for range 5 {
			for range 1 + a.below(3) {
				p = a.twisted(p)
			}
			if reasons[wantReckoned(t, placed(p, &a.dice))]++; t.Failed() {
				return
			}
		}
	}
	for _, why := range strings.Split("names,fields,no struct,no main,main's params,main's result,params,ends not,in block,let,set,if,while,return,print,close,go,send to,sent,"+
		"no case,second default,onrecv,do,left,set of caught,set of no name,no result,nil,new,no name,call of,how many,argument,index of,index,dot of,no field,make of,make,len,recv,unary,binary,", ",") {
		if reasons[why] < 3 {
			t.Errorf("only %d faults of this reason: %q", reasons[why], why)
		}
		delete(reasons, why)
	}
	if len(reasons) > 0 {
		t.Errorf("reasons that are not in the list: %v", reasons)
	}
}
