package check_test

import (
	"reflect"
	"strings"
	"sync"
	"testing"
	"unsafe"

	"gantline/api"
	"gantline/check"
	"gantline/tree"
)

// programs are of all sorts, such as are refused too.
func programs(t *testing.T) []tree.Node {
	t.Helper()
	list := append(samples(t), tree.Node{}, n("block", ""), n("program", "", n("what", "w")), n("program", ""), read(t, "struct S { a int; } struct S { b []chan S; } func main() { }"))
	a := author{dice: 4}
	for range 40 {
		p := a.program(60)
		list = append(list, placed(p, &a.dice), placed(a.twisted(p), &a.dice))
	}
	return list
}

// roomy is a tree in memory of its own, each list of which has room to spare, in which something stands.
func roomy(x tree.Node) tree.Node {
	y := tree.Node{Kind: strings.Clone(x.Kind), Text: strings.Clone(x.Text), At: x.At, Kids: make([]tree.Node, 0, len(x.Kids)+3)}
	for _, kid := range x.Kids {
		y.Kids = append(y.Kids, roomy(kid))
	}
	spare := y.Kids[len(y.Kids):cap(y.Kids)]
	for i := range spare {
		spare[i] = n("spare", "s", n("block", ""))
	}
	return y
}

// all tells what a tree's memory holds, spare room too.
func all(x tree.Node) tree.Node {
	y := tree.Node{Kind: strings.Clone(x.Kind), Text: strings.Clone(x.Text), At: x.At}
	for _, kid := range x.Kids[:cap(x.Kids)] {
		y.Kids = append(y.Kids, all(kid))
	}
	return y
}

// answers are all that the package's calls tell of a program.
type answers struct {
	at     int
	e      api.Errno
	fields [][]tree.Node
	types  []string
	ends   []bool
}

func asked(p tree.Node) answers {
	var a answers
	a.at, a.e = check.Check(p)
	for _, name := range append(strings.Fields(words), "T", "E", "") {
		a.fields = append(a.fields, check.Fields(p, name))
	}
	each(&p, func(x *tree.Node) {
		a.types = append(a.types, check.Type(*x))
		a.ends = append(a.ends, check.Ends(*x))
	})
	return a
}

// R4: no call writes into what is handed in, spare room too; what stands in spare room is of no account.
func TestNothingWritten(t *testing.T) {
	for _, p := range programs(t) {
		x := roomy(p)
		want, before := asked(p), all(x)
		if got := asked(x); !reflect.DeepEqual(got, want) {
			t.Errorf("%s with room to spare: %v, want %v", short(tree.Show(p)), got, want)
		}
		if !reflect.DeepEqual(all(x), before) {
			t.Errorf("%s: a call wrote into it", short(tree.Show(p)))
		}
	}
}

// spoil writes into all lists of some trees, spare room too.
func spoil(list []tree.Node) {
	list = list[:cap(list)]
	for i := range list {
		spoil(list[i].Kids)
		list[i] = tree.Node{Kind: "spoilt", Text: "spoilt", At: -1}
	}
}

// R4: what Fields answers is new memory: what becomes of it is not seen in the program, nor in another answer; and the other way round.
func TestFieldsAreNew(t *testing.T) {
	p := roomy(read(t, "struct S { a int; b []chan S; c func(int, []S) func(bool) S; } struct T { } func main() { }"))
	want, before := roomy(p.Kids[0]), all(p)
	first, second := check.Fields(p, "S"), check.Fields(p, "S")
	spoil(first)
	if !reflect.DeepEqual(all(p), before) {
		t.Errorf("the program has become %v", p)
	}
	spoil(p.Kids)
	if !tree.Same(tree.Node{Kind: "struct", Text: "S", Kids: second}, want) {
		t.Errorf("Fields of S has become %v", second)
	}
}

// R4: no two lists of one answer share memory, spare room too.
func TestNoListsShared(t *testing.T) {
	p := read(t, "struct S { a int; b []chan S; c func(int, []S) func(bool) S; d []chan S; } func main() { }")
	p.Kids[0].Kids[3].Kids = p.Kids[0].Kids[1].Kids
	list, seen := check.Fields(p, "S"), map[*tree.Node]bool{}
	var look func(list []tree.Node)
	look = func(list []tree.Node) {
		for i := range list[:cap(list)] {
			at := &list[:cap(list)][i]
			if seen[at] {
				t.Error("two lists share memory")
			}
			seen[at] = true
			look(at.Kids)
		}
	}
	look(list)
	if len(seen) < 17 {
		t.Errorf("%d nodes", len(seen))
	}
}

// inBytes is a tree whose texts lie in bytes that can be written into.
func inBytes(x tree.Node, held *[][]byte) tree.Node {
	y := tree.Node{Kind: bytesOf(x.Kind, held), Text: bytesOf(x.Text, held), At: x.At}
	for _, kid := range x.Kids {
		y.Kids = append(y.Kids, inBytes(kid, held))
	}
	return y
}

func bytesOf(text string, held *[][]byte) string {
	b := []byte(text)
	*held = append(*held, b)
	return unsafe.String(unsafe.SliceData(b), len(b))
}

// R4: the texts of what is answered are new memory too.
func TestTextsAreNew(t *testing.T) {
	want := read(t, "struct S { a int; b []chan S; c func(int, []S) func(bool) S; } func main() { }")
	var held [][]byte
	p := inBytes(want, &held)
	fields, typ := check.Fields(p, "S"), check.Type(p.Kids[0].Kids[1].Kids[0])
	for _, b := range held {
		for i := range b {
			b[i] = '?'
		}
	}
	if !reflect.DeepEqual(fields, want.Kids[0].Kids) || typ != "[]chan S" {
		t.Errorf("Fields has become %v, Type %q", fields, typ)
	}
}

// R5: what a call answers hangs on its arguments alone, on no call ahead of it and none beside it.
func TestAskedAgain(t *testing.T) {
	list := programs(t)
	var want []answers
	for _, p := range list {
		want = append(want, asked(p))
	}
	var group sync.WaitGroup
	for from := range 6 {
		group.Go(func() {
			for i := range list {
				at := (i*5 + from*7) % len(list)
				if got := asked(list[at]); !reflect.DeepEqual(got, want[at]) {
					t.Errorf("asked again: %v, want %v", got, want[at])
				}
			}
		})
	}
	group.Wait()
}
