package tree_test

import (
	"slices"
	"strings"
	"testing"

	"gantline/tree"
)

// plain reckons by the chapter's table, each row looked up once.
type plain struct {
	rows map[string]row
	may  map[[2]string]bool // a list of Kinds, and a Kind: is it one of them?
}

func newPlain() plain {
	p := plain{map[string]row{}, map[[2]string]bool{}}
	for _, r := range rows() {
		p.rows[r.kind] = r
		for _, list := range append(slices.Clone(r.kids), r.more) {
			for _, kind := range strings.Fields(list) {
				p.may[[2]string{list, kind}] = true
			}
		}
	}
	return p
}

// fits tells whether a node's Kind and kids are as a row has them.
func (p plain) fits(x tree.Node) bool {
	r, ok := p.rows[x.Kind]
	if !ok || len(x.Kids) < len(r.kids) || r.more == "" && len(x.Kids) > len(r.kids) {
		return false
	}
	for i, kid := range x.Kids {
		list := r.more
		if i < len(r.kids) {
			list = r.kids[i]
		}
		if !p.may[[2]string{list, kid.Kind}] {
			return false
		}
	}
	return true
}

// show writes a node that has so many others above it, as the table says.
func (p plain) show(x tree.Node, above int) string {
	if above >= 200 || !p.fits(x) {
		return ""
	}
	var kids []string
	for _, kid := range x.Kids {
		kids = append(kids, p.show(kid, above+1))
	}
	is := func(kid int, kind string) bool { return x.Kids[kid].Kind == kind }
	switch x.Kind {
	case "program":
		return lines(kids)
	case "struct":
		return "struct " + x.Text + " {" + strings.Join(kids, "") + " }"
	case "field":
		return " " + x.Text + " " + kids[0] + ";"
	case "global":
		return "var " + x.Text + " " + kids[0] + ";"
	case "func", "lambda":
		head := "(" + kids[0] + ") "
		if !is(1, "none") {
			head += kids[1] + " "
		}
		if x.Kind == "func" {
			return "func " + x.Text + head + kids[2]
		}
		return "(func" + head + kids[2] + ")"
	case "params":
		return strings.Join(kids, ", ")
	case "param":
		return x.Text + " " + kids[0]
	case "fn":
		head := "func(" + strings.Join(kids[1:], ", ") + ")"
		if is(0, "none") {
			return head
		}
		return head + " " + kids[0]
	case "if":
		head := "if " + kids[0] + " " + kids[1]
		if is(2, "none") {
			return head
		}
		return head + " else " + kids[2]
	}
	return shortRow(x, kids)
}

// shortRow writes by those rows that ask nothing of the kids.
func shortRow(x tree.Node, kids []string) string {
	switch x.Kind {
	case "int", "bool", "true", "false":
		return x.Kind
	case "named", "number", "name":
		return x.Text
	case "list":
		return "[]" + kids[0]
	case "chan":
		return "chan " + kids[0]
	case "block":
		return braced("", kids)
	case "select":
		return braced("select ", kids)
	case "let":
		return "var " + x.Text + " " + kids[0] + " = " + kids[1] + ";"
	case "set":
		return kids[0] + " = " + kids[1] + ";"
	case "while":
		return "while " + kids[0] + " " + kids[1]
	case "return":
		if x.Kids[0].Kind == "none" {
			return "return;"
		}
		return "return " + kids[0] + ";"
	case "print", "close", "go":
		return x.Kind + " " + kids[0] + ";"
	case "send":
		return "send " + kids[0] + ", " + kids[1] + ";"
	case "onrecv":
		return "case recv " + x.Text + " = " + kids[0] + " " + kids[1]
	case "onsend":
		return "case send " + kids[0] + ", " + kids[1] + " " + kids[2]
	case "default":
		return "default " + kids[0]
	case "do":
		return kids[0] + ";"
	case "nil", "len", "recv", "make":
		return x.Kind + "(" + strings.Join(kids, ", ") + ")"
	case "binary":
		return "(" + kids[0] + " " + x.Text + " " + kids[1] + ")"
	case "unary":
		return "(" + x.Text + " " + kids[0] + ")"
	case "call":
		return kids[0] + "(" + strings.Join(kids[1:], ", ") + ")"
	case "index":
		return kids[0] + "[" + kids[1] + "]"
	case "dot":
		return kids[0] + "." + x.Text
	case "new":
		return "new " + x.Text
	}
	return ""
}

func lines(kids []string) string {
	all := ""
	for _, kid := range kids {
		all += kid + "\n"
	}
	return all
}

func braced(head string, kids []string) string {
	head += "{"
	for _, kid := range kids {
		head += " " + kid
	}
	return head + " }"
}

// dice tells numbers that look like chance, and are always the same.
type dice uint64

func (d *dice) below(n int) int {
	*d = *d*6364136223846793005 + 1442695040888963407
	return int(uint64(*d) >> 33 % uint64(n))
}

// one is one of some Kinds.
func (d *dice) one(kinds string) string {
	list := strings.Fields(kinds)
	return list[d.below(len(list))]
}

// grown is a tree of a Kind that is about so deep at most; one part of so many, if any, is not as its row has it.
func (d *dice) grown(p plain, kind string, deep, bad int) tree.Node {
	x := tree.Node{Kind: kind, Text: []string{"", "x", "+", "12", "long name"}[d.below(5)], At: d.below(100)}
	r := p.rows[kind]
	lists := slices.Clone(r.kids)
	if r.more != "" {
		for range d.below(4) {
			lists = append(lists, r.more)
		}
	}
	if bad > 0 && d.below(bad) == 0 {
		lists = d.spoil(lists)
	}
	for _, list := range lists {
		kid := d.one(list)
		if deep <= 0 {
			kid = plainest(list)
		}
		x.Kids = append(x.Kids, d.grown(p, kid, deep-1, bad))
	}
	return x
}

// spoil has other kids: one fewer, one more, or one of any Kind.
func (d *dice) spoil(lists []string) []string {
	any := strings.Join(kinds(), " ") + " what"
	switch d.below(3) {
	case 0:
		if len(lists) > 0 {
			return lists[1:]
		}
	case 1:
		if len(lists) > 0 {
			lists[d.below(len(lists))] = any
			return lists
		}
	}
	return append(lists, any)
}

// P20.1: many trees of all Kinds, such as fit and such as do not, against the table; each is the same as itself alone.
func TestLikePlain(t *testing.T) {
	p, d, something, spoilt := newPlain(), dice(20), 0, 0
	for range 12000 {
		kind := kinds()[d.below(len(p.rows))]
		x := d.grown(p, kind, d.below(6), []int{0, 40, 8}[d.below(3)])
		want := p.show(x, 0)
		wantShow(t, x, want)
		if len(want) > 20 {
			something++
		}
		if !wholly(p, x) {
			spoilt++
		}
	}
	if something < 3000 || spoilt < 2000 {
		t.Errorf("%d trees of which something is written, %d with a part that does not fit", something, spoilt)
	}
}

// wholly tells whether a tree fits in all its parts.
func wholly(p plain, x tree.Node) bool {
	return p.fits(x) && !slices.ContainsFunc(x.Kids, func(kid tree.Node) bool { return !wholly(p, kid) })
}
